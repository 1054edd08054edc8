"""[J4]: what a bench is asked."""

import itertools
import random

from endkeepers.amounts import need
from endkeepers.benches import Bench
from endkeepers.books import all_books, is_bare
from endkeepers.counting import least_like
from endkeepers.errors import TooMany, Unfit
from endkeepers.joining import joined
from endkeepers.knowntellers import known_teller
from endkeepers.moving import open_deeds

from tests.edges import LOTS_300, LOTS_301, MIXING
from tests.helping import (
    ALL_ENDS, BARE, BOOKS, FOLLOWING, HOLDING, LEAST_HOLDING, NO_TUPLES, QUEUE, RESTING_BOOKS, TAKING_BOOKS, UNDOING,
    WINDOW, Case, drawn_row, drawn_teller, long_turning, ring, slow_history, slow_need, slow_partings, slow_told,
)
from tests.test_benches import NO_NAMES, read


def bench_of(book, many, tellers, row=()):
    """A bench with tellers under names, and a row that is loaded."""
    bench = Bench(book, many)
    for name, teller in tellers.items():
        bench.add(name, teller)
    if row:
        bench.load(row)
    return bench


def drawn_bench(draw, states=4, longest=6, most=3):
    """A bench with drawn tellers, and a drawn row."""
    book, many = draw.choice(BOOKS), draw.randint(1, 3)
    names = draw.sample(("a", "b", "abc", "z", "next"), draw.randint(0, most))
    tellers = {name: drawn_teller(draw, draw.randint(1, states), many, 2) for name in names}
    return bench_of(book, many, tellers, drawn_row(draw, many, draw.randint(0, longest)))


def long_row(book, many, letters):
    """A bench whose row has so many letters, which a put has made of the 40 that were loaded."""
    bench = bench_of(book, many, {}, (0,) * min(letters, 40))
    put = next(word for word in book if word.startswith("put"))
    for _ in range(letters - 40):
        bench.do((put, 1))
    return bench


class TestAsks(Case):
    def test_the_document(self):
        b = bench_of(QUEUE, 2, {"next": known_teller("next", 2), "holds": known_teller("holds", 2)}, (0, 1, 0))
        self.assertSame(
            (b.tells(), b.needs_now(), b.joint_need(), b.opened()),
            ((("holds", 1), ("next", 1)), (("holds", 4), ("next", 5)), 5,
             (("put right", 0), ("put right", 1), ("take left",))),
        )
        self.assertSame(
            (b.can_part("holds", (1, 0, 0)), b.can_part("next", (1, 0, 0)), b.least_now("holds"), b.least_now("next")),
            (False, True, (0, 0, 0), (0, 1, 0)),
        )
        b.do(("take left",))
        self.assertSame(b.tells(), (("holds", 1), ("next", 0)))
        b.do(("put right", 1))
        self.assertSame(b.tells(), (("holds", 1), ("next", 1)))
        b.drop("holds")
        self.assertSame(b.needs_now(), (("next", 5),))
        self.assertRaised(Unfit, {}, b.can_part, "next", (0, 1))
        self.assertRaised(Unfit, {}, Bench(QUEUE, 2).joint_need)

    def test_beside_own_reckonings(self):
        draw = random.Random(820)
        for _ in range(150):
            b = drawn_bench(draw, 4, 4)
            before = read(b)
            pairs = [(name, slow_told(teller, b.row)) for name, teller in b.named]
            self.assertSame(b.tells(), tuple(sorted(pairs)))
            deeds = open_deeds(b.book, b.many, b.row)
            self.assertSame(b.opened(), deeds)
            if is_bare(b.book):
                continue
            wanted = []
            for name, teller in b.named:
                wanted.append((name, slow_need(teller, b.book, len(b.row))))
            try:
                found = b.needs_now()
            except TooMany:
                continue
            self.assertSame(found, tuple(wanted))
            self.assertSame(read(b), before)

    def test_without_tellers(self):
        for book in BOOKS:
            b = Bench(book, 2)
            self.assertSame((b.tells(), b.needs_now()), ((), ()))
            self.assertRaised(Unfit, {}, b.joint_need)
            for name in ("a", "next") + NO_NAMES:
                self.assertRaised(Unfit, {}, b.can_part, name, ())
                self.assertRaised(Unfit, {}, b.least_now, name)
            self.assertSame(b.opened(), open_deeds(book, 2, ()))

    def test_the_bare_book(self):
        b = bench_of(BARE, 2, {"next": FOLLOWING}, (0, 1))
        self.assertSame((b.tells(), b.opened()), ((("next", 1),), (("take left",), ("take right",))))
        for call in (b.needs_now, b.joint_need):
            self.assertRaised(Unfit, {}, call)
        self.assertRaised(Unfit, {}, b.can_part, "next", (0, 0))
        self.assertRaised(Unfit, {}, b.least_now, "next")

    def test_joint_need_beside_all_rows(self):
        draw = random.Random(821)
        tried = 0
        for _ in range(120):
            b = drawn_bench(draw, 3, 4)
            if is_bare(b.book) or not b.named:
                continue
            rows = itertools.product(range(b.many), repeat=len(b.row))
            # All tellers at once know of a row what each knows.
            wanted = len({tuple(slow_history(teller, b.book, row) for _, teller in b.named) for row in rows})
            try:
                found = b.joint_need()
            except TooMany:
                continue
            self.assertSame(found, wanted)
            self.assertSame(found, need(joined(tuple(teller for _, teller in b.named)), b.book, len(b.row)))
            tried += 1
        self.assertGreater(tried, 60)

    def test_needs_raise_what_the_first_name_raises(self):
        book, teller = LOTS_301[0]
        many = len(teller[0][0])
        small = tuple((0,) * many for _ in range(1)), (0,)
        b = bench_of(book, many, {"b": teller, "c": small})
        self.assertRaised(TooMany, {"limit": 300}, b.needs_now)
        b.add("a", small)
        self.assertRaised(TooMany, {"limit": 300}, b.needs_now)
        b.drop("b")
        self.assertSame(b.needs_now(), (("a", 1), ("c", 1)))
        b = bench_of(WINDOW, 3, {"long": long_turning(12)}, (0,))
        self.assertRaised(TooMany, {"limit": 300}, b.needs_now)

    def test_too_many_states_together(self):
        # Rings of 5 and of 7 states have 35 together.
        rings = {"five": ring(5, 0, 2), "seven": ring(7, 0, 2)}
        for book in TAKING_BOOKS + RESTING_BOOKS + (WINDOW,):
            b = bench_of(book, 2, rings, (0, 1))
            self.assertRaised(TooMany, {"limit": 24}, b.joint_need)
            b.drop("seven")
            b.add("three", ring(3, 0, 2))
            self.assertSame(b.joint_need(), 1)
        b = bench_of(BARE, 2, rings, (0, 1))
        self.assertRaised(Unfit, {}, b.joint_need)

    def test_too_many_actions_together(self):
        book, teller = LOTS_301[1]
        b = bench_of(book, 3, {"a": teller})
        self.assertRaised(TooMany, {"limit": 300}, b.joint_need)
        b = bench_of(("put left", "take right"), 3, {"a": MIXING})
        self.assertRaised(TooMany, {"limit": 300}, b.joint_need)
        self.assertRaised(TooMany, {"limit": 300}, b.needs_now)
        self.assertRaised(TooMany, {"limit": 300}, b.least_now, "a")
        # A row can be told apart all the same.
        self.assertSame(b.can_part("a", ()), False)

    def test_can_part_beside_all_deeds(self):
        draw = random.Random(822)
        told = {}
        for _ in range(200):
            b = drawn_bench(draw, 3, 4)
            if is_bare(b.book) or not b.named:
                continue
            name, teller = draw.choice(b.named)
            value = drawn_row(draw, b.many, len(b.row))
            found = b.can_part(name, value)
            apart = slow_history(teller, b.book, b.row) != slow_history(teller, b.book, value)
            self.assertSame(found, apart)
            if len(b.row) <= 2 and b.many < 3:
                states = len(teller[0])
                self.assertEqual(found, slow_partings(teller, b.book, b.row, value, len(b.row) + states + 1) is not None)
            told[(b.book, found)] = True
        self.assertGreater(len(told), 20)

    def test_can_part_is_unfit(self):
        b = bench_of(QUEUE, 2, {"next": FOLLOWING}, (0, 1))
        for name in NO_NAMES + ("nex", "nextt", "Next", "holds"):
            self.assertRaised(Unfit, {}, b.can_part, name, (0, 1))
            self.assertRaised(Unfit, {}, b.least_now, name)
        for value in NO_TUPLES + ((), (0,), (0, 1, 0), (0, 2), (0, True), (0, -1), (0, None), ((0, 1),), ("0", "1"), [0, 1]):
            self.assertRaised(Unfit, {}, b.can_part, "next", value)
        self.assertSame(b.can_part("next", (0, 1)), False)

    def test_rows_of_40_letters_and_more(self):
        tellers = {"next": FOLLOWING, "holds": LEAST_HOLDING, "holding": HOLDING}
        for letters in (39, 40, 41, 57):
            for book in (QUEUE, UNDOING, ALL_ENDS, ("put left", "take left")):
                b = long_row(book, 2, letters)
                for name, teller in tellers.items():
                    b.add(name, teller)
                self.assertEqual(len(b.row), letters)
                self.assertSame(b.tells(), tuple((name, slow_told(teller, b.row)) for name, teller in sorted(tellers.items())))
                self.assertSame(b.needs_now(), tuple((name, need(tellers[name], book, letters)) for name in sorted(tellers)))
                self.assertSame(b.can_part("next", b.row), False)
                self.assertSame(b.can_part("holds", (1,) * letters), True)
                self.assertSame(b.joint_need(), need(joined(tuple(tellers.values())), book, letters))
                for name, teller in tellers.items():
                    if letters <= 40:
                        self.assertSame(b.least_now(name), least_like(teller, book, b.row))
                    else:
                        self.assertRaised(TooMany, {"limit": 40}, b.least_now, name)
                self.assertRaised(Unfit, {}, b.least_now, "none")

    def test_100_letters(self):
        b = bench_of(ALL_ENDS, 2, {}, (0, 1) * 20)
        for _ in range(58):
            b.do(("put left", 1))
        b.add("next", FOLLOWING)
        self.assertEqual((len(b.row), b.version), (98, 60))
        self.assertSame((b.tells(), b.needs_now()), ((("next", 1),), (("next", 2 ** 98),)))
        self.assertSame(b.can_part("next", (0,) * 98), True)
        self.assertSame(b.joint_need(), 2 ** 98)
        self.assertRaised(TooMany, {"limit": 40}, b.least_now, "next")

    def test_least_now_beside_all_rows(self):
        draw = random.Random(823)
        tried = {}
        for _ in range(200):
            b = drawn_bench(draw, 3, 4)
            if b.book not in TAKING_BOOKS or not b.named:
                continue
            name, teller = draw.choice(b.named)
            try:
                found = b.least_now(name)
            except TooMany:
                continue
            rows = itertools.product(range(b.many), repeat=len(b.row))
            wanted = next(row for row in rows if slow_history(teller, b.book, row) == slow_history(teller, b.book, b.row))
            self.assertSame(found, wanted)
            tried[b.book] = True
        self.assertGreater(len(tried), 8)

    def test_least_now_of_books_without_takes_and_of_the_slide(self):
        # least_like is told of books with a take alone.
        for book in RESTING_BOOKS + (WINDOW,):
            b = bench_of(book, 2, {"next": FOLLOWING}, (0, 1))
            self.assertRaised(Unfit, {}, b.least_now, "next")
            self.assertSame(b.can_part("next", (1, 1)), True)
        b = long_row(("put right",), 2, 41)
        b.add("next", FOLLOWING)
        self.assertRaised(TooMany, {"limit": 40}, b.least_now, "next")
        self.assertRaised(Unfit, {}, b.least_now, "none")
        # The bare book is ahead of too many letters; its rows never have more than were loaded.
        b = bench_of(BARE, 2, {"next": FOLLOWING}, (0, 1) * 20)
        self.assertRaised(Unfit, {}, b.least_now, "next")

    def test_what_is_asked_changes_nothing(self):
        draw = random.Random(824)
        for _ in range(60):
            b = drawn_bench(draw)
            b.add("x", drawn_teller(draw, 3, b.many, 1))
            b.load((0,))
            b.undo()
            before = read(b)
            for _ in range(2):
                for call, more in (
                    (b.opened, ()), (b.tells, ()), (b.needs_now, ()), (b.joint_need, ()), (b.can_part, ("x", b.row)),
                    (b.least_now, ("x",)), (b.can_part, (None, [])), (b.least_now, ([],)), (b.twin, ()),
                ):
                    try:
                        call(*more)
                    except (Unfit, TooMany):
                        pass
                    self.assertSame(read(b), before)

    def test_calls_by_names(self):
        b = bench_of(QUEUE, 2, {"holds": LEAST_HOLDING}, (0, 1, 0))
        self.assertSame(b.can_part(value=(1, 0, 0), name="holds"), False)
        self.assertSame(b.least_now(name="holds"), (0, 0, 0))
        self.assertRaised(Unfit, {}, b.can_part, value=(1, 0, 0), name="hold")

    def test_equal_calls_get_equal_results(self):
        draw = random.Random(825)
        for _ in range(30):
            b = drawn_bench(draw)
            twin = b.twin()
            self.assertSame((b.opened(), b.tells()), (twin.opened(), twin.tells()))
            for name, _ in b.named:
                if not is_bare(b.book):
                    self.assertSame(b.can_part(name, b.row), twin.can_part(name, b.row))

    def test_values_that_were_returned(self):
        b = bench_of(QUEUE, 2, {"next": FOLLOWING}, (0, 1))
        for value in (all_books(), b.named, b.opened(), b.tells(), b, b.twin()):
            self.assertRaised(Unfit, {}, b.can_part, "next", value)
            self.assertRaised(Unfit, {}, b.can_part, value, (0, 1))
            self.assertRaised(Unfit, {}, b.least_now, value)
        self.assertSame(b.can_part("next", b.least_now("next")), False)


class TestTimes(Case):
    def test_24_states_and_300_lots(self):
        draw = random.Random(826)
        for book, teller in LOTS_300:
            many = len(teller[0][0])
            b = bench_of(book, many, {"a": teller, "b": teller}, drawn_row(draw, many, 40))
            for call, more in ((b.needs_now, ()), (b.joint_need, ()), (b.least_now, ("a",)), (b.can_part, ("a", b.row))):
                with self.assertQuick(3):
                    call(*more)
        for book in BOOKS:
            b = bench_of(book, 3, {"a": drawn_teller(draw, 24, 3, 9)}, drawn_row(draw, 3, 40))
            for call, more in ((b.needs_now, ()), (b.joint_need, ()), (b.least_now, ("a",)), (b.can_part, ("a", b.row))):
                with self.assertQuick(2):
                    try:
                        call(*more)
                    except (TooMany, Unfit):
                        pass

    def test_60_tellers_at_once(self):
        b = Bench(UNDOING, 2)
        names = [a + c for a in "abcdefgh" for c in "stuvwxyz"][:60]
        for number, name in enumerate(names):
            b.add(name, ring((1, 2, 3, 4, 6, 8, 12, 24)[number % 8], 0, 2))
        with self.assertQuick(3):
            self.assertSame(b.joint_need(), 1)
        self.assertEqual(len(b.tells()), 60)
        with self.assertQuick(3):
            self.assertSame(b.needs_now(), tuple((name, 1) for name in sorted(names)))
