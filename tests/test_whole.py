"""The whole program: the same numbers told by all its parts, and all names of the interface."""

import itertools
import random

from endkeepers.amounts import bits, need, needs
from endkeepers.benches import Bench
from endkeepers.benchlogs import bench_behind, log_text, read_log
from endkeepers.books import is_bare
from endkeepers.counting import least_like, ways
from endkeepers.errors import KeeperError, TooMany, Unfit
from endkeepers.forkpapers import fork, fork_least
from endkeepers.grades import grade, most
from endkeepers.histories import history, told_apart
from endkeepers.judging import answers, broken, small
from endkeepers.knowntellers import known_names, known_teller
from endkeepers.moving import after, led, open_deeds
from endkeepers.packmoves import pack_after
from endkeepers.packplaces import pack_at, pack_place
from endkeepers.packs import length_of, pack, pack_tells, width
from endkeepers.partings import parting
from endkeepers.ringpapers import rings, rings_least
from endkeepers.rules import rule, rule_error, same_need
from endkeepers.runtexts import book_text, run_text
from endkeepers.shells import Shell
from endkeepers.tables import counts, made
from endkeepers.tellers import kinds, least, told
from endkeepers.tellertexts import teller_text
from endkeepers.windowgrades import window_grades
from endkeepers.windowpapers import window_fork, window_rings
from endkeepers.windows import window_need

from tests import test_conventions
from tests.helping import (
    FOLLOWING, QUEUE, TAKING_BOOKS, TOLD_BOOKS, UNDOING, WINDOW, Case, drawn_row, drawn_tellers, slow_history, slow_need,
)
from tests.packing import ONE_TAKE_BOOKS
from tests.saying import shown
from tests.test_interface import FUNCTIONS

KNOWN = tuple(known_teller(name, many) for name in known_names() for many in (1, 2, 3))


def in_a_shell(teller, book, row=()):
    """A shell with a bench of the book, the teller under the name mine, and the row."""
    shell = Shell()
    for line in (
        "bench %d %s" % (kinds(teller), book_text(book)), "add mine " + teller_text(teller).replace("\n", "; "),
        "load" + "".join(" %d" % letter for letter in row),
    ):
        assert not shell.say(line).startswith("error"), line
    return shell


def too_many(call, *arguments):
    """Whether the call raises TooMany."""
    try:
        call(*arguments)
    except TooMany:
        return True
    return False


class TestTheSameNumbers(Case):
    def test_needs_of_few_letters(self):
        draw = random.Random(940)
        for teller in KNOWN[1::3] + tuple(drawn_tellers(941, 15, 4, 3, 3)):
            many = kinds(teller)
            last = 4 if many < 3 else 3
            for book in TOLD_BOOKS:
                table = made(teller, book, last)
                wanted = tuple(slow_need(teller, book, number) for number in range(last + 1))
                self.assertSame(counts(table), wanted)
                self.assertSame(broken(teller, book, table), None)
                if too_many(needs, teller, book, 0):
                    self.assertSame(in_a_shell(teller, book).say("needs"), "error TooMany")
                    continue
                self.assertSame(needs(teller, book, last), wanted)
                for number, found in enumerate(wanted):
                    self.assertSame(need(teller, book, number), found)
                    self.assertTrue(2 ** bits(teller, book, number) >= found)
                    self.assertTrue(found == 1 or 2 ** (bits(teller, book, number) - 1) < found)
                    row = drawn_row(draw, many, number)
                    bench = Bench(book, many)
                    bench.add("mine", teller), bench.load(row)
                    self.assertSame(bench.needs_now(), (("mine", found),))
                    self.assertSame(bench.joint_need(), found)
                    shell = in_a_shell(teller, book, row)
                    self.assertSame([shell.say(line) for line in ("needs", "joint", "need mine %d" % number)],
                                    ["mine %d" % found, str(found), str(found)])
                    self.assertSame(shell.say("bits mine %d" % number), str(bits(teller, book, number)))
                    if book == WINDOW:
                        self.assertSame(window_need(teller, number), found)
                    if book in ONE_TAKE_BOOKS and grade(teller, book) is not None:
                        rows = itertools.product(range(many), repeat=number)
                        self.assertEqual(len({pack(teller, book, row) for row in rows}), found)

    def test_known_tellers_to_300_letters(self):
        for teller in KNOWN:
            for book in TOLD_BOOKS:
                found = needs(teller, book, 300)
                first, factors = rule(teller, book)
                numbers = list(first)
                while len(numbers) < 301:
                    numbers.append(sum(a * b for a, b in zip(factors, reversed(numbers))))
                self.assertSame(tuple(numbers[:301]), found)
                self.assertSame(rule_error(teller, book, (first, factors)), None)
                if book == WINDOW:
                    self.assertSame((window_need(teller, 300), window_need(teller, 41)), (found[300], found[41]))
                elif grade(teller, book) == 0:
                    self.assertSame(most(teller, book), max(found))
                if book in TAKING_BOOKS:
                    power = grade(teller, book)
                    paper = fork(teller, book) if power is None else rings(teller, book)
                    lower = fork_least if power is None else rings_least
                    for number in (0, 1, 40, 299, 300):
                        self.assertLessEqual(lower(paper, number), found[number])
                if book in ONE_TAKE_BOOKS and grade(teller, book) is not None:
                    last = pack_at(teller, book, 300, found[300] - 1)
                    self.assertSame((length_of(last), pack_place(teller, book, last)), (300, found[300] - 1))
                    self.assertRaised(Unfit, {}, pack_at, teller, book, 300, found[300])

    def test_known_tellers_in_shells(self):
        for many in (1, 2, 3):
            for book in TOLD_BOOKS:
                shell = Shell()
                shell.say("bench %d %s" % (many, book_text(book)))
                for name in known_names():
                    teller = known_teller(name, many)
                    shell.say("known " + name)
                    self.assertSame(
                        [shell.say(line % name) for line in ("need %s 300", "bits %s 299", "rule %s")],
                        [str(need(teller, book, 300)), str(bits(teller, book, 299)),
                         "; ".join(" ".join(map(str, part)) for part in rule(teller, book))],
                    )
                    same = same_need(teller, book, known_teller("next", many), book)
                    if name > "next":
                        self.assertSame(shell.say("same %s next" % name), "always" if same is None else str(same))

    def test_windows_by_their_grades(self):
        for teller in KNOWN:
            b, grades = window_grades(teller)
            for rest, power in enumerate(grades):
                paper = window_fork(teller, rest) if power is None else window_rings(teller, rest)
                lower = fork_least if power is None else rings_least
                for number in range(b + rest, 301, 40 * len(grades)):
                    self.assertLessEqual(lower(paper, number - b), need(teller, WINDOW, number))

    def test_one_teller_through_all_parts(self):
        teller, book, row = FOLLOWING, UNDOING, (1, 1, 0, 0)
        self.assertSame(needs(teller, book, 4), (1, 2, 4, 7, 11))
        self.assertSame(counts(made(teller, book, 4)), (1, 2, 4, 7, 11))
        shell = in_a_shell(teller, book, row)
        self.assertSame([shell.say(line) for line in ("needs", "joint", "need mine 4", "bits mine 4", "grade mine")],
                        ["mine 11", "11", "11", "4", "2"])
        self.assertSame(pack(teller, book, row), ((0, 2), (1, 1)))
        self.assertSame(pack_place(teller, book, pack(teller, book, row)), 2)
        self.assertSame(len({pack_at(teller, book, 4, number) for number in range(11)}), 11)
        self.assertSame((grade(teller, book), width(teller, book), len(rings(teller, book))), (2, 3, 6))
        self.assertSame([window_need(teller, number) for number in range(5)], [1, 1, 3, 5, 7])
        self.assertSame(len(ways(teller, book)), 3)


class TestTheSameRows(Case):
    def test_a_run_by_all_keepers(self):
        draw = random.Random(942)
        for teller in KNOWN[1::3] + tuple(drawn_tellers(943, 25, 4, 3, 3)):
            many = kinds(teller)
            for book in TOLD_BOOKS:
                size = 4
                table = small(book, many, made(teller, book, size))
                row = drawn_row(draw, many, draw.randint(0, size))
                shell = in_a_shell(teller, book, row)
                packing = book in ONE_TAKE_BOOKS and not too_many(grade, teller, book) and grade(teller, book) is not None
                some = pack(teller, book, row) if packing else None
                rows, deeds = [row], []
                for _ in range(8):
                    near = [deed for deed in open_deeds(book, many, rows[-1])
                            if deed[0] in ("slide", "take left", "take right") or len(rows[-1]) < size]
                    if near:
                        deeds.append(draw.choice(near))
                        rows.append(after(book, many, rows[-1], deeds[-1]))
                        shell.say(" ".join(map(str, deeds[-1])))
                        self.assertSame(shell.say("tells"), "mine %d" % told(teller, rows[-1]))
                        if packing:
                            some = pack_after(teller, book, some, deeds[-1])
                            self.assertSame(pack_tells(teller, book, some), told(teller, rows[-1]))
                self.assertSame(rows[-1], led(book, many, row, tuple(deeds)))
                self.assertSame(answers(book, many, table, row, tuple(deeds)), tuple(told(teller, row) for row in rows))
                self.assertSame([shell.say("row"), shell.say("run")], [shown(rows[-1]), run_text(row, tuple(deeds))])
                if packing:
                    self.assertSame(some, pack(teller, book, rows[-1]))

    def test_which_rows_are_told_apart(self):
        draw = random.Random(944)
        answers_found = {}
        for teller in KNOWN[1::3] + tuple(drawn_tellers(945, 25, 4, 3, 3)):
            many = kinds(teller)
            for book in TOLD_BOOKS:
                one, other = (drawn_row(draw, many, 4) for _ in range(2))
                apart = slow_history(teller, book, one) != slow_history(teller, book, other)
                answers_found[apart] = True
                self.assertSame(told_apart(teller, book, one, other), apart)
                self.assertEqual(history(teller, book, one) != history(teller, book, other), apart)
                self.assertEqual(parting(teller, book, one, other) is not None, apart)
                shell = in_a_shell(teller, book, one)
                self.assertSame(shell.say("parts mine" + "".join(" %d" % a for a in other)), "yes" if apart else "no")
                starts, _ = made(teller, book, 4)[4]
                rows = list(itertools.product(range(many), repeat=4))
                self.assertEqual(starts[rows.index(one)] != starts[rows.index(other)], apart)
                if book in TAKING_BOOKS and not too_many(ways, teller, book):
                    self.assertEqual(least_like(teller, book, one) != least_like(teller, book, other), apart)
                    self.assertSame(shell.say("like mine"), shown(least_like(teller, book, one)))
                    if book in ONE_TAKE_BOOKS and grade(teller, book) is not None:
                        self.assertEqual(pack(teller, book, one) != pack(teller, book, other), apart)
        self.assertEqual(set(answers_found), {True, False})

    def test_a_log_of_all_known_tellers(self):
        calls = tuple(("add", name, known_teller(name, 2)) for name in known_names())
        calls += (("load", (0, 1) * 20), ("do", ("put right", 1)), ("undo",), ("redo",), ("drop", "parity"))
        bench = bench_behind(QUEUE, 2, read_log(log_text(calls)))
        self.assertSame([name for name, _ in bench.named], [name for name in known_names() if name != "parity"])
        self.assertSame(bench.tells(), tuple((name, told(teller, bench.row)) for name, teller in bench.named))
        self.assertSame(bench.needs_now(), tuple((name, need(teller, QUEUE, 41)) for name, teller in bench.named))
        self.assertFalse(is_bare(bench.book))


class TestTheInterface(Case):
    def test_every_name_is_called(self):
        called = {call for call, _ in test_conventions.CALLS + test_conventions.BOOL_CALLS}
        called |= {call for call, _, _, _ in test_conventions.REFUSED}
        names = {(call.__module__, call.__name__) for call in called}
        # What log and bench calls go through stands in functions of the tests.
        for module, functions in FUNCTIONS.items():
            for name in functions:
                if name not in ("bench_behind",):
                    self.assertIn(("endkeepers." + module, name), names)

    def test_by_names_in_any_order(self):
        draw = random.Random(946)
        for call, arguments in test_conventions.CALLS + test_conventions.BOOL_CALLS:
            wanted = call(*arguments.values())
            orders = list(itertools.permutations(arguments))
            for order in draw.sample(orders, min(len(orders), 6)):
                self.assertSame(call(**{name: arguments[name] for name in order}), wanted)
                # The first ones by place, the others by names.
                first = draw.randint(0, len(order))
                by_place = list(arguments.values())[:first]
                by_name = {name: arguments[name] for name in order if name in list(arguments)[first:]}
                self.assertSame(call(*by_place, **by_name), wanted)
        for call, arguments, error, fields in test_conventions.REFUSED:
            for order in draw.sample(list(itertools.permutations(arguments)), 1):
                self.assertRaised(error, fields, call, **{name: arguments[name] for name in order})

    def test_least_tellers_need_the_same(self):
        for teller in drawn_tellers(947, 12, 6, 3, 3):
            for book in TOLD_BOOKS:
                try:
                    self.assertSame(needs(least(teller), book, 30), needs(teller, book, 30))
                except KeeperError as error:
                    self.assertIs(type(error), TooMany)
