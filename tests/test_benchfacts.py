"""[J6]: what holds of benches and logs."""

import itertools
import math
import random

from endkeepers.benches import Bench
from endkeepers.benchlogs import bench_behind, log_text, read_log
from endkeepers.books import is_bare
from endkeepers.errors import KeeperError, TooMany
from endkeepers.histories import told_apart
from endkeepers.joining import joined
from endkeepers.moving import led

from tests.helping import BOOKS, TAKING_BOOKS, Case, drawn_row
from tests.test_benchasks import drawn_bench
from tests.test_benches import drawn_call, read


def worked(draw, times):
    """A bench to which drawn calls were made."""
    bench = Bench(draw.choice(BOOKS), draw.randint(1, 3))
    for _ in range(times):
        call = drawn_call(draw, bench)
        try:
            getattr(bench, call[0])(*call[1:])
        except KeeperError:
            pass
    return bench


class TestBenchFacts(Case):
    def test_the_row_is_that_to_which_the_deeds_lead(self):
        draw = random.Random(860)
        for _ in range(60):
            bench = worked(draw, 0)
            for _ in range(40):
                call = drawn_call(draw, bench)
                try:
                    getattr(bench, call[0])(*call[1:])
                except KeeperError:
                    continue
                self.assertSame(bench.row, led(bench.book, bench.many, bench.begun, bench.deeds))

    def test_undo_and_redo(self):
        draw = random.Random(861)
        both = 0
        for _ in range(120):
            bench = worked(draw, draw.choice((3, 20, 60)))
            before = read(bench)
            if bench.version:
                bench.undo()
                bench.redo()
                self.assertSame(read(bench), before)
            if bench.undone:
                both += 1
                bench.redo()
                bench.undo()
                self.assertSame(read(bench), before)
            for word, more in (("load", ((0,),)), ("add", ("abc", (((0,) * bench.many,), (1,))))):
                if bench.version < 60:
                    ahead = read(bench)[:7]
                    getattr(bench, word)(*more)
                    behind = read(bench)
                    bench.undo()
                    self.assertSame(read(bench), ahead + (1,))
                    bench.redo()
                    self.assertSame(read(bench), behind)
        self.assertGreater(both, 20)

    def test_a_log_of_what_is_read_leads_to_an_equal_bench(self):
        draw = random.Random(862)
        for _ in range(100):
            bench = worked(draw, draw.choice((3, 20, 60)))
            calls = [("add", name, teller) for name, teller in bench.named] + [("load", bench.begun)]
            calls += [("do", deed) for deed in bench.deeds]
            if len(calls) <= 60:
                other = bench_behind(bench.book, bench.many, tuple(calls))
                self.assertTrue(other == bench)
                self.assertSame((other.begun, other.deeds), (bench.begun, bench.deeds))
                self.assertSame(read_log(log_text(tuple(calls))), tuple(calls))

    def test_least_now_is_the_first_that_cannot_be_parted(self):
        draw = random.Random(863)
        tried = 0
        for _ in range(150):
            bench = drawn_bench(draw, 4, 4)
            if bench.book not in TAKING_BOOKS or not bench.named:
                continue
            name, _ = draw.choice(bench.named)
            try:
                row = bench.least_now(name)
            except TooMany:
                continue
            tried += 1
            self.assertSame(bench.can_part(name, row), False)
            for other in itertools.product(range(bench.many), repeat=len(row)):
                if other == row:
                    break
                self.assertSame(bench.can_part(name, other), True)
        self.assertGreater(tried, 50)

    def test_rows_that_cannot_be_parted_for_all_at_once(self):
        draw = random.Random(864)
        answers = {}
        for _ in range(200):
            bench = drawn_bench(draw, 3, 4)
            if is_bare(bench.book) or not bench.named:
                continue
            other = drawn_row(draw, bench.many, len(bench.row))
            try:
                together = joined(tuple(teller for _, teller in bench.named))
            except TooMany:
                continue
            apart = told_apart(together, bench.book, bench.row, other)
            each = [bench.can_part(name, other) for name, _ in bench.named]
            self.assertEqual(apart, any(each))
            answers[apart] = True
        self.assertEqual(set(answers), {True, False})

    def test_joint_need_lies_between(self):
        draw = random.Random(865)
        tried = 0
        for _ in range(200):
            bench = drawn_bench(draw, 4, 20)
            if is_bare(bench.book) or not bench.named:
                continue
            try:
                each, together = bench.needs_now(), bench.joint_need()
            except TooMany:
                continue
            tried += 1
            needs = [number for _, number in each]
            self.assertLessEqual(max(needs), together)
            self.assertLessEqual(together, math.prod(needs))
            if len(needs) == 1:
                self.assertSame(together, needs[0])
        self.assertGreater(tried, 80)

    def test_calls_that_raise_change_nothing(self):
        draw = random.Random(866)
        raised = {}
        for _ in range(80):
            bench = worked(draw, 10)
            for _ in range(40):
                call = drawn_call(draw, bench)
                before = read(bench)
                try:
                    getattr(bench, call[0])(*call[1:])
                except KeeperError as error:
                    raised[type(error).__name__] = True
                    self.assertSame(read(bench), before)
                twin = bench.twin()
                self.assertSame(read(twin), read(bench))
        self.assertGreaterEqual(set(raised), {"Refused", "NothingToUndo", "NothingToRedo"})
