"""[J1] to [J3]: benches, what is read of them, and their edits."""

import copy
import random

from endkeepers.benches import Bench
from endkeepers.books import all_books
from endkeepers.errors import KeeperError, NothingToRedo, NothingToUndo, Refused, TooManyEdits, Unfit
from endkeepers.knowntellers import known_names, known_teller
from endkeepers.moving import deed_error, deeds_of
from endkeepers.tellers import kinds

from tests.helping import (
    ALL_ENDS, BOOKS, FOLLOWING, HOLDING, LEAST_HOLDING, NO_TUPLES, QUEUE, UNDOING, WINDOW, Case, drawn_row,
    drawn_teller, slow_after,
)

READ = ("book", "many", "named", "begun", "deeds", "row", "version", "undone")
NO_NAMES = (
    "", "A", "aB", "a1", "a b", " a", "a ", "a\n", "abcdefghijklm", "a" * 13, "a" * 20000, "_", "-", "{", "`", "@", "[",
    None, True, 0, 10 ** 399, ("a",), ["a"], {"a": 1}, (), [], {},
)
NO_TELLERS = NO_TUPLES + (
    (), (FOLLOWING,), list(FOLLOWING), (((0,),), (100,)), (((1,),), (0,)), (((0,),), (0, 0)), (((),), (0,)),
    (((False, 0),), (0,)), (((0, 0),), (True,)), (((0,) * 4,), (0,)), (((0,),) * 25, (0,) * 25), ((), ()),
)
NO_BOOKS = NO_TUPLES + (
    ("put right", "put left"), ("put left", "put left"), ("slide", "put left"), ("put left", "slide"), ("jump",),
    ("take right", "take left"), (None,), ("slide", "slide"), (("slide",),), "slide", ["slide"],
)


def read(bench):
    """All that is read of a bench."""
    return tuple(getattr(bench, name) for name in READ)


class SlowBench:
    """A bench that does all edits that stand anew whenever it is read."""

    def __init__(self, book, many):
        self.book, self.many, self.edits, self.later = book, many, [], []

    def read(self):
        named, begun, deeds, row = {}, (), (), ()
        for word, *more in self.edits:
            if word == "add":
                named[more[0]] = more[1]
            elif word == "drop":
                del named[more[0]]
            elif word == "load":
                begun = row = more[0]
                deeds = ()
            else:
                deeds += (more[0],)
                row = slow_after(row, more[0])
        pairs = tuple((name, named[name]) for name in sorted(named))
        return self.book, self.many, pairs, begun, deeds, row, len(self.edits), len(self.later)

    def make(self, word, *more):
        """What the call returns, or the error that it raises."""
        if word in ("undo", "redo"):
            ahead, behind = (self.edits, self.later) if word == "undo" else (self.later, self.edits)
            if not ahead:
                return {"undo": NothingToUndo, "redo": NothingToRedo}[word], {}
            behind.append(ahead.pop())
            return len(self.edits)
        why = getattr(self, "refused_" + word)(*more)
        if why is not None:
            return Refused, {"word": why}
        if len(self.edits) == 60:
            return TooManyEdits, {}
        self.edits.append((word, *more))
        self.later = []
        return len(self.edits)

    def refused_add(self, name, value):
        letters = "abcdefghijklmnopqrstuvwxyz"
        if type(name) is not str or not 0 < len(name) < 13 or set(name) - set(letters):
            return "name"
        if value in NO_TELLERS:
            return "teller"
        return "kinds" if len(value[0][0]) != self.many else None

    def refused_drop(self, name):
        return None if any(name == known for known, _ in self.read()[2]) else "name"

    def refused_load(self, value):
        if type(value) is not tuple:
            return "form"
        if len(value) > 40:
            return "long"
        return None if all(type(letter) is int and 0 <= letter < self.many for letter in value) else "letter"

    def refused_do(self, value):
        return deed_error(self.book, self.many, self.read()[5], value)


def drawn_call(draw, bench):
    """A drawn call of a bench, mostly one that can be made."""
    word = draw.choice(("add", "add", "drop", "load", "do", "do", "do", "do", "undo", "undo", "redo"))
    wrong = draw.random() < 0.15
    if word == "add":
        name = draw.choice(NO_NAMES) if wrong and draw.random() < 0.5 else draw.choice(("a", "b", "abcdefghijkl", "zz"))
        many = draw.randint(1, 3) if wrong else bench.many
        teller = draw.choice(NO_TELLERS) if wrong and draw.random() < 0.5 else drawn_teller(draw, 2, many, 3)
        return word, name, teller
    if word == "drop":
        return word, draw.choice(NO_NAMES) if wrong else draw.choice(("a", "b", "abcdefghijkl", "zz"))
    if word == "load":
        row = drawn_row(draw, 3 if wrong else bench.many, draw.choice((0, 1, 3, 40)))
        return word, draw.choice((row, row + (0,) * 41, list(row), None, (True,))) if wrong else row
    if word == "do":
        deeds = deeds_of(ALL_ENDS + WINDOW if wrong else bench.book, 3 if wrong else bench.many)
        return word, draw.choice(deeds + (() if not wrong else (None, (), ("jump",), ["slide", 0]))) if deeds else ()
    return (word,)


class TestBench(Case):
    def make(self, bench, slow, call):
        """Make the call on both, and compare what comes of it."""
        wanted = slow.make(*call)
        before = read(bench)
        if isinstance(wanted, tuple):
            self.assertRaised(wanted[0], wanted[1], getattr(bench, call[0]), *call[1:])
            self.assertSame(read(bench), before)
        else:
            self.assertSame(getattr(bench, call[0])(*call[1:]), wanted)
        self.assertSame(read(bench), slow.read())
        return wanted

    def test_the_document(self):
        following, holding = known_teller("next", 2), known_teller("holds", 2)
        b = Bench(("put right", "take left"), 2)
        self.assertSame(
            [b.add("next", following), b.add("holds", holding), b.load((0, 1, 0)), b.version, b.undone], [1, 2, 3, 3, 0],
        )
        self.assertSame([b.do(("take left",)), b.row, b.do(("put right", 1)), b.row], [4, (1, 0), 5, (1, 0, 1)])
        self.assertSame((b.begun, b.deeds), ((0, 1, 0), (("take left",), ("put right", 1))))
        self.assertSame(
            [b.undo(), b.row, b.undone, b.undo(), b.undo(), b.row, b.redo(), b.row, b.undone],
            [4, (1, 0), 1, 3, 2, (), 3, (0, 1, 0), 2],
        )
        self.assertSame(
            [b.drop("holds"), b.undone, b.named == (("next", following),), b.twin() == b], [4, 0, True, True],
        )
        self.assertRaised(NothingToRedo, {}, b.redo)
        self.assertRaised(Refused, {"word": "name"}, b.add, "Next", following)
        self.assertRaised(Refused, {"word": "kinds"}, b.add, "mine", known_teller("next", 3))
        self.assertRaised(Refused, {"word": "teller"}, b.add, "mine", (following,))
        self.assertRaised(Refused, {"word": "name"}, b.drop, "holds")
        self.assertRaised(Refused, {"word": "letter"}, b.load, (0, 2))
        self.assertRaised(Refused, {"word": "book"}, b.do, ("take right",))
        self.assertRaised(Unfit, {}, Bench, ("put left", "put left"), 2)

    def test_a_new_bench(self):
        for book in BOOKS:
            for many in (1, 2, 3):
                self.assertSame(read(Bench(book, many)), (book, many, (), (), (), (), 0, 0))

    def test_books_and_kinds_that_are_none(self):
        for book in NO_BOOKS:
            for many in (1, 2, 3, 0, None):
                self.assertRaised(Unfit, {}, Bench, book, many)
        for many in NO_TUPLES + (0, 4, -1, (), (1,), "2", 10 ** 399):
            if many != 1 or many is True:
                for book in BOOKS + (None, []):
                    self.assertRaised(Unfit, {}, Bench, book, many)

    def test_drawn_calls(self):
        draw = random.Random(800)
        told = {}
        for _ in range(150):
            book, many = draw.choice(BOOKS), draw.randint(1, 3)
            bench, slow = Bench(book, many), SlowBench(book, many)
            for _ in range(draw.choice((5, 40, 120))):
                call = drawn_call(draw, bench)
                wanted = self.make(bench, slow, call)
                told[(call[0], wanted[1].get("word", wanted[0].__name__) if isinstance(wanted, tuple) else None)] = True
        self.assertGreaterEqual(set(told), {
            ("add", None), ("add", "name"), ("add", "teller"), ("add", "kinds"), ("drop", None), ("drop", "name"),
            ("load", None), ("load", "form"), ("load", "long"), ("load", "letter"), ("do", None), ("do", "form"),
            ("do", "letter"), ("do", "book"), ("do", "empty"), ("undo", None), ("undo", "NothingToUndo"),
            ("redo", None), ("redo", "NothingToRedo"),
        })

    def test_names(self):
        b = Bench(QUEUE, 2)
        for name in ("a", "z", "az", "abcdefghijkl", "mnopqrstuvwx", "yz"):
            b.add(name, FOLLOWING)
        self.assertSame([name for name, _ in b.named], ["a", "abcdefghijkl", "az", "mnopqrstuvwx", "yz", "z"])
        for name in NO_NAMES:
            for value in (FOLLOWING, None, known_teller("next", 3)):
                self.assertRaised(Refused, {"word": "name"}, b.add, name, value)
            self.assertRaised(Refused, {"word": "name"}, b.drop, name)
        self.assertEqual(b.version, 6)
        # The one that had the name goes; the same one stands for one more edit.
        self.assertSame([b.add("a", HOLDING), b.named[0], b.add("a", HOLDING), len(b.named)], [7, ("a", HOLDING), 8, 6])
        self.assertSame([b.drop("a"), len(b.named), b.undo(), b.undo(), b.undo(), b.named[0]], [9, 5, 8, 7, 6, ("a", FOLLOWING)])

    def test_tellers_as_they_are(self):
        b = Bench(QUEUE, 2)
        b.add("holding", HOLDING)
        self.assertSame(b.named, (("holding", HOLDING),))
        for value in NO_TELLERS:
            self.assertRaised(Refused, {"word": "teller"}, b.add, "holding", value)
        for many in (1, 3):
            for name in known_names():
                self.assertRaised(Refused, {"word": "kinds"}, b.add, "x", known_teller(name, many))
                bench = Bench(QUEUE, many)
                self.assertSame(bench.add("x", known_teller(name, many)), 1)
                self.assertRaised(Refused, {"word": "kinds"}, bench.add, "x", FOLLOWING)

    def test_rows_that_are_loaded(self):
        b = Bench(ALL_ENDS, 3)
        for row in ((), (2,), (0, 1, 2), (0,) * 40):
            b.load(row)
            b.do(("put left", 2))
            self.assertSame((b.begun, b.deeds, b.row), (row, (("put left", 2),), (2,) + row))
        for value, word in (
            ((0,) * 41, "long"), ((3,) * 41, "long"), ((0, 3), "letter"), ((True,), "letter"), ((-1,), "letter"),
            (((),), "letter"), ((None, 9), "letter"), (("0",), "letter"), ([], "form"), ("", "form"), (None, "form"),
            ({}, "form"), (0, "form"), ([0] * 41, "form"),
        ):
            self.assertRaised(Refused, {"word": word}, b.load, value)
        self.assertSame((b.begun, b.deeds, b.row), ((0,) * 40, (("put left", 2),), (2,) + (0,) * 40))
        # A deed may make it longer than a row that is loaded.
        for _ in range(20):
            b.do(("put right", 1))
        self.assertEqual(len(b.row), 61)
        self.assertRaised(Refused, {"word": "long"}, b.load, b.row)

    def test_deeds(self):
        for book in BOOKS:
            b = Bench(book, 2)
            for length in (0, 1, 2):
                b.load((0, 1)[:length])
                for value in deeds_of(ALL_ENDS + WINDOW, 3) + (None, (), ("jump",), ["take left"], ("put left",)):
                    word = deed_error(book, 2, b.row, value)
                    twin = b.twin()
                    if word is None:
                        self.assertSame(twin.do(value), b.version + 1)
                        self.assertSame((twin.row, twin.deeds), (slow_after(b.row, value), (value,)))
                    else:
                        self.assertRaised(Refused, {"word": word}, twin.do, value)
                        self.assertSame(read(twin), read(b))

    def test_60_edits_and_one_more(self):
        b = Bench(UNDOING, 2)
        for number in range(1, 61):
            self.assertSame(b.do(("put right", 0)), number)
        before = read(b)
        self.assertRaised(TooManyEdits, {}, b.do, ("put right", 1))
        self.assertRaised(TooManyEdits, {}, b.add, "a", FOLLOWING)
        self.assertRaised(TooManyEdits, {}, b.load, ())
        # What is refused is told ahead of it.
        self.assertRaised(Refused, {"word": "name"}, b.drop, "a")
        self.assertRaised(Refused, {"word": "name"}, b.add, "A", FOLLOWING)
        self.assertRaised(Refused, {"word": "kinds"}, b.add, "a", known_teller("next", 1))
        self.assertRaised(Refused, {"word": "letter"}, b.load, (2,))
        self.assertRaised(Refused, {"word": "book"}, b.do, ("take left",))
        self.assertSame(read(b), before)
        self.assertRaised(NothingToRedo, {}, b.redo)
        self.assertSame([b.undo(), b.do(("put right", 1)), b.undone], [59, 60, 0])
        self.assertRaised(TooManyEdits, {}, b.do, ("take right",))
        full = Bench(UNDOING, 2)
        full.add("a", FOLLOWING)
        for _ in range(59):
            full.load((0,))
        self.assertRaised(TooManyEdits, {}, full.drop, "a")

    def test_undo_and_redo_to_both_ends(self):
        draw = random.Random(801)
        b = Bench(ALL_ENDS, 2)
        seen = [read(b)[:6]]
        while b.version < 60:
            call = drawn_call(draw, b)
            if call[0] not in ("undo", "redo"):
                try:
                    getattr(b, call[0])(*call[1:])
                    seen.append(read(b)[:6])
                except KeeperError:
                    pass
        self.assertEqual(len(seen), 61)
        for _ in range(2):
            for number in range(59, -1, -1):
                self.assertSame(b.undo(), number)
                self.assertSame(read(b), seen[number] + (number, 60 - number))
            self.assertRaised(NothingToUndo, {}, b.undo)
            self.assertSame(read(b), seen[0] + (0, 60))
            for number in range(1, 61):
                self.assertSame(b.redo(), number)
                self.assertSame(read(b), seen[number] + (number, 60 - number))
            self.assertRaised(NothingToRedo, {}, b.redo)

    def test_an_edit_clears_what_can_be_done_again(self):
        for word, more in (("add", ("b", FOLLOWING)), ("drop", ("a",)), ("load", ((1,),)), ("do", (("put right", 1),))):
            b = Bench(UNDOING, 2)
            b.add("a", FOLLOWING)
            b.load((0, 1))
            b.do(("take right",))
            b.undo()
            b.undo()
            self.assertEqual(b.undone, 2)
            for wrong, value in (("add", ("B", FOLLOWING)), ("drop", ("b",)), ("load", ((2,),)), ("do", (("jump",),))):
                self.assertRaises(Refused, getattr(b, wrong), *value)
                self.assertEqual((b.version, b.undone), (1, 2))
            self.assertSame(getattr(b, word)(*more), 2)
            self.assertEqual((b.version, b.undone), (2, 0))
            self.assertRaised(NothingToRedo, {}, b.redo)

    def test_what_is_loaded_last(self):
        b = Bench(UNDOING, 2)
        b.do(("put right", 1))
        b.load((0,))
        b.do(("put right", 0))
        b.add("a", FOLLOWING)
        b.do(("take right",))
        self.assertSame((b.begun, b.deeds, b.row), ((0,), (("put right", 0), ("take right",)), (0,)))
        b.load((0,))
        self.assertSame((b.begun, b.deeds, b.row, b.version), ((0,), (), (0,), 6))
        b.undo()
        self.assertSame((b.begun, b.deeds, b.row), ((0,), (("put right", 0), ("take right",)), (0,)))
        for _ in range(4):
            b.undo()
        self.assertSame((b.begun, b.deeds, b.row), ((), (("put right", 1),), (1,)))


class TestTwins(Case):
    def test_twins_go_their_own_way(self):
        draw = random.Random(802)
        for _ in range(60):
            book, many = draw.choice(BOOKS), draw.randint(1, 3)
            bench, slow = Bench(book, many), SlowBench(book, many)
            pairs = [(bench, slow)]
            for _ in range(40):
                bench, slow = draw.choice(pairs)
                if draw.random() < 0.1:
                    twin = bench.twin()
                    self.assertIs(type(twin), Bench)
                    self.assertIsNot(twin, bench)
                    self.assertSame(read(twin), read(bench))
                    self.assertTrue(twin == bench)
                    pairs.append((twin, copy.deepcopy(slow)))
                call = drawn_call(draw, bench)
                wanted = slow.make(*call)
                if isinstance(wanted, tuple):
                    self.assertRaised(wanted[0], wanted[1], getattr(bench, call[0]), *call[1:])
                else:
                    self.assertSame(getattr(bench, call[0])(*call[1:]), wanted)
                for one, other in pairs:
                    self.assertSame(read(one), other.read())

    def test_a_twin_can_do_again_what_was_taken_back(self):
        b = Bench(UNDOING, 2)
        b.load((0, 1))
        b.do(("take right",))
        b.undo()
        twin = b.twin()
        self.assertSame([twin.redo(), twin.row, b.row, b.undone], [2, (0,), (0, 1), 1])
        self.assertSame([b.undo(), b.do(("put right", 1)), twin.row, twin.begun], [0, 1, (0,), (0, 1)])


class TestEqual(Case):
    def behind(self, book=UNDOING, many=2, calls=()):
        """A bench behind calls."""
        bench = Bench(book, many)
        for call in calls:
            getattr(bench, call[0])(*call[1:])
        return bench

    def assertEqualBenches(self, one, other, wanted):
        """Whether both are equal, by == and by !=, in both orders."""
        for left, right in ((one, other), (other, one)):
            self.assertIs(left == right, wanted)
            self.assertIs(left != right, not wanted)

    def test_by_book_kinds_names_and_row(self):
        plain = self.behind()
        self.assertEqualBenches(plain, plain, True)
        self.assertEqualBenches(plain, self.behind(), True)
        self.assertEqualBenches(plain, self.behind(QUEUE), False)
        self.assertEqualBenches(plain, self.behind(many=3), False)
        self.assertEqualBenches(plain, self.behind(calls=[("load", (0,))]), False)
        self.assertEqualBenches(plain, self.behind(calls=[("add", "a", FOLLOWING)]), False)
        named = self.behind(calls=[("add", "a", FOLLOWING)])
        self.assertEqualBenches(named, self.behind(calls=[("add", "a", FOLLOWING)]), True)
        self.assertEqualBenches(named, self.behind(calls=[("add", "b", FOLLOWING)]), False)
        self.assertEqualBenches(named, self.behind(calls=[("add", "a", LEAST_HOLDING)]), False)
        # Tellers that tell the same are not the same values.
        holding = self.behind(calls=[("add", "a", LEAST_HOLDING)])
        self.assertEqualBenches(holding, self.behind(calls=[("add", "a", (((1, 0), (1, 1), (2, 2)), (0, 1, 0)))]), False)

    def test_which_edits_led_there_does_not_matter(self):
        one = self.behind(calls=[("load", (0, 1)), ("do", ("take right",)), ("add", "b", FOLLOWING), ("add", "a", HOLDING)])
        other = self.behind(calls=[
            ("add", "a", HOLDING), ("add", "x", HOLDING), ("add", "b", FOLLOWING), ("do", ("put right", 0)), ("drop", "x"),
        ])
        self.assertEqualBenches(one, other, True)
        self.assertNotEqual((one.begun, one.deeds, one.version), (other.begun, other.deeds, other.version))
        other.undo()
        self.assertEqualBenches(one, other, False)
        other.redo()
        self.assertEqualBenches(one, other, True)
        other.load((1,))
        other.undo()
        self.assertEqual(other.undone, 1)
        self.assertEqualBenches(one, other, True)

    def test_other_values(self):
        plain = Bench(UNDOING, 2)
        for value in NO_TUPLES + ((), (UNDOING, 2, (), ()), UNDOING, Bench, read(plain), FOLLOWING, Unfit()):
            self.assertEqualBenches(plain, value, False)

        class Like:
            book, many, named, begun, deeds, row, version, undone = read(plain)

        self.assertEqualBenches(plain, Like(), False)

    def test_benches_as_values(self):
        b, other = Bench(UNDOING, 2), Bench(QUEUE, 1)
        self.assertRaised(Unfit, {}, Bench, other, 2)
        self.assertRaised(Unfit, {}, Bench, UNDOING, other)
        self.assertRaised(Refused, {"word": "name"}, b.add, other, FOLLOWING)
        self.assertRaised(Refused, {"word": "teller"}, b.add, "a", other)
        self.assertRaised(Refused, {"word": "name"}, b.drop, other)
        b.add("a", FOLLOWING)
        self.assertRaised(Refused, {"word": "name"}, b.drop, other)
        self.assertRaised(Refused, {"word": "form"}, b.load, other)
        self.assertRaised(Refused, {"word": "letter"}, b.load, (other,))
        for value in (other, (other,), ("put right", other), (other, 0)):
            self.assertRaises(Refused, b.do, value)
        self.assertRaised(Refused, {"word": "teller"}, b.add, "a", ((other,), (0,)))

    def test_what_was_returned_by_others(self):
        b = Bench(ALL_ENDS, 2)
        for value in (all_books(), known_names(), deeds_of(ALL_ENDS, 2)):
            self.assertRaised(Refused, {"word": "teller"}, b.add, "a", value)
            self.assertRaised(Refused, {"word": "name"}, b.drop, value)
            self.assertRaised(Refused, {"word": "letter"}, b.load, value)
            self.assertRaised(Refused, {"word": "form"}, b.do, value)
        self.assertEqual(b.version, 0)


class TestNames(Case):
    def test_calls_by_names(self):
        b = Bench(many=2, book=UNDOING)
        self.assertSame(b.add(value=FOLLOWING, name="a"), 1)
        self.assertSame(b.load(value=(0, 1)), 2)
        self.assertSame(b.do(value=("take right",)), 3)
        self.assertSame(b.drop(name="a"), 4)
        self.assertSame(read(b), (UNDOING, 2, (), (0, 1), (("take right",),), (0,), 4, 0))
        self.assertRaised(Refused, {"word": "name"}, b.add, value=FOLLOWING, name="A")
        self.assertRaised(Unfit, {}, Bench, many=0, book=UNDOING)

    def test_what_was_handed_in_is_not_changed(self):
        b = Bench(QUEUE, 2)
        for word, more in (
            ("add", ["a", [[[0]], {0: [1]}]]), ("add", [["a"], FOLLOWING]), ("drop", [{"a": ["b"]}]),
            ("load", [[0, {1: [2]}]]), ("do", [["put right", [0]]]), ("do", [("put right", [0])]),
        ):
            given = copy.deepcopy(more)
            self.assertRaises(Refused, getattr(b, word), *given)
            self.assertSame(given, more)

    def test_what_is_read_does_not_change_later(self):
        b = Bench(UNDOING, 2)
        b.add("a", FOLLOWING)
        b.load((0, 1))
        b.do(("take right",))
        before = read(b)
        kept = copy.deepcopy(before)
        b.do(("put right", 1))
        b.drop("a")
        b.load(())
        for _ in range(6):
            b.undo()
        self.assertSame(before, kept)
        self.assertEqual(kinds(before[2][0][1]), 2)


class TestTimes(Case):
    def test_60_edits_and_many_twins(self):
        teller = drawn_teller(random.Random(803), 24, 3, 99)
        with self.assertQuick(2):
            b = Bench(ALL_ENDS, 3)
            for number in range(20):
                b.add("abcdefghijklmnopqrst"[number], teller)
                b.load((0, 1, 2) * 13)
                b.do(("put left", 2))
            twins = [b.twin() for _ in range(50)]
            for twin in twins:
                while twin.version:
                    twin.undo()
                self.assertEqual(twin.undone, 60)
            self.assertEqual(b.version, 60)
