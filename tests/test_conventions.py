"""[A3]: calls by place and by name, equal calls, and what is handed in stays as it is."""

import copy

from endkeepers.amounts import bits, need, needs
from endkeepers.benches import Bench
from endkeepers.benchlogs import bench_behind, log_text, read_log
from endkeepers.books import all_books, book_error, is_bare, mirrored_book
from endkeepers.classes import (
    action_of, agreement, class_of, letters_alike, state_of, thinned, told_from, turns,
)
from endkeepers.counting import go_alike, least_like, lot_of, ways
from endkeepers.errors import BadLog, BadRun, BadText, Refused, TooMany, Unfit
from endkeepers.forkpapers import fork, fork_error, fork_least
from endkeepers.grades import books_within, grade, most
from endkeepers.histories import history, told_apart
from endkeepers.joining import changed, joined, mirrored, paired
from endkeepers.judging import answers, broken, small
from endkeepers.knowntellers import known_names, known_teller
from endkeepers.moving import after, deed_error, deeds_of, led, open_deeds
from endkeepers.packmoves import pack_after
from endkeepers.packplaces import pack_at, pack_place
from endkeepers.packs import length_of, pack, pack_error, pack_tells, width
from endkeepers.partings import parting, parting_error
from endkeepers.ringpapers import rings, rings_error, rings_least
from endkeepers.rules import rule, rule_error, same_need
from endkeepers.runtexts import book_text, read_book, read_run, run_text
from endkeepers.shells import Shell
from endkeepers.tables import counts, made, table_error
from endkeepers.tellers import kinds, least, parting_row, row_error, teller_error, told
from endkeepers.tellertexts import read_teller, teller_text
from endkeepers.windowgrades import window_alike, window_grades
from endkeepers.windowpapers import window_fork, window_fork_error, window_rings, window_rings_error
from endkeepers.windows import window_items, window_need, window_place, window_ways

from tests.edges import LOTS_301
from tests.helping import (
    ALL_ENDS, BARE, BEGINS, ENDS, FIFTH, FOLLOWING, HOLDING, LEAST_HOLDING, QUEUE, UNDOING, WINDOW, Case, long_turning,
)

EVEN = (((1, 2), (3, 3), (2, 2), (1, 1)), (0, 0, 0, 1))
MANY_LOTS = {"teller": LOTS_301[0][1], "book": LOTS_301[0][0]}
RING_PAPER = ((), (1,), (1, 0), (1, 0, 0), (1, 0, 0, 1), (1, 0, 0, 1, 0))
TWO = (((1, 2, 0), (1, 3, 1), (3, 2, 2), (3, 3, 3)), (0, 1, 2, 3))
TWO_PAPER = ((), (2,), (0, 2), (2, 0, 2), (1, 2, 0, 2), (0, 1, 2, 0, 2))
LOG = ("put right",)
TABLE = (((0,), ((0, (0, 1)),)), ((0, 1), ((1, (None, None)), (0, (None, None)))))
PACK = ((0, 10 ** 30), (1, 0), (2, 5))
CALLS_OF_A_LOG = (("load", (0, 1)), ("add", "mine", ENDS), ("do", ("take right",)), ("undo",), ("redo",))


def bench_read(book, many):
    """What is read of a new bench."""
    bench = Bench(book=book, many=many)
    return bench.book, bench.many, bench.named, bench.begun, bench.deeds, bench.row, bench.version, bench.undone


def bench_asked(book, many, value):
    """What a bench behind a log is asked."""
    bench = bench_behind(book=book, many=many, value=value)
    return bench.opened(), bench.tells(), bench.needs_now(), bench.joint_need(), bench.row, bench.least_now(name="mine")


def said(lines):
    """What a new shell answers."""
    shell = Shell()
    return tuple(shell.say(line=line) for line in lines)


CALLS = (
    (teller_error, {"value": HOLDING}), (teller_error, {"value": [[[0]], {0: [1]}]}),
    (teller_error, {"value": (([0],), (0,))}), (teller_error, {"value": (((0,),), ([],))}),
    (kinds, {"teller": HOLDING}),
    (row_error, {"many": 2, "value": (0, 1)}), (row_error, {"many": 1, "value": (0, 1)}),
    (row_error, {"many": 3, "value": [0, {1: [2]}]}), (row_error, {"many": 3, "value": (0, [1])}),
    (told, {"teller": FOLLOWING, "row": (1, 0, 1)}),
    (least, {"teller": HOLDING}),
    (parting_row, {"one": BEGINS, "other": ENDS}), (parting_row, {"one": ENDS, "other": ENDS}),
    (mirrored, {"teller": FOLLOWING}),
    (paired, {"one": FOLLOWING, "other": LEAST_HOLDING}), (paired, {"one": LEAST_HOLDING, "other": FOLLOWING}),
    (joined, {"some": (FOLLOWING, HOLDING, ENDS)}),
    (changed, {"teller": FOLLOWING, "table": (4, 4)}), (changed, {"teller": FOLLOWING, "table": (4, 5)}),
    (teller_text, {"teller": HOLDING}), (read_teller, {"value": "0 tells 7"}),
    (read_teller, {"value": "1 0 1 tells 7\n1 1 0 tells 1"}),
    (known_names, {}), (known_teller, {"name": "next", "many": 3}), (known_teller, {"name": "length", "many": 1}),
    (book_error, {"value": QUEUE}), (book_error, {"value": ["slide", {0: [1]}]}), (book_error, {"value": ([0], "x")}),
    (book_error, {"value": ("slide", "slide")}), (all_books, {}),
    (mirrored_book, {"book": UNDOING}), (mirrored_book, {"book": ()}),
    (deeds_of, {"book": QUEUE, "many": 3}), (open_deeds, {"book": QUEUE, "many": 2, "row": ()}),
    (open_deeds, {"book": WINDOW, "many": 2, "row": (1, 0)}),
    (deed_error, {"book": QUEUE, "many": 1, "row": (), "value": ("put right", 0)}),
    (deed_error, {"book": QUEUE, "many": 1, "row": (), "value": ("put right", [0, {1: [2]}])}),
    (deed_error, {"book": QUEUE, "many": 1, "row": (), "value": ["take left", []]}),
    (deed_error, {"book": QUEUE, "many": 1, "row": (0,), "value": ([], {})}),
    (after, {"book": ("put left", "take left"), "many": 3, "row": (0, 1), "deed": ("put left", 2)}),
    (after, {"book": UNDOING, "many": 3, "row": (0, 1), "deed": ("take right",)}),
    (led, {"book": QUEUE, "many": 2, "row": (0, 1), "deeds": (("take left",), ("put right", 0))}),
    (led, {"book": (), "many": 2, "row": (), "deeds": ()}),
    (run_text, {"row": (1, 0), "deeds": (("slide", 1), ("take left",))}), (read_run, {"value": "row 1\nslide 0"}),
    (book_text, {"book": ()}), (book_text, {"book": QUEUE}), (read_book, {"value": "put right, take left"}),
    (state_of, {"teller": HOLDING, "row": (1, 0)}), (told_from, {"teller": HOLDING, "row": (1, 0)}),
    (action_of, {"teller": FOLLOWING, "row": (1, 0)}), (class_of, {"teller": HOLDING, "book": QUEUE, "row": (0, 1)}),
    (letters_alike, {"teller": HOLDING}), (thinned, {"teller": HOLDING}),
    (agreement, {"teller": EVEN, "number": 2}), (turns, {"teller": EVEN}),
    (history, {"teller": FOLLOWING, "book": WINDOW, "row": (1, 0, 1)}),
    (history, {"teller": FOLLOWING, "book": ALL_ENDS, "row": (1, 0, 1)}),
    (parting, {"teller": FOLLOWING, "book": UNDOING, "one": (0, 0), "other": (1, 0)}),
    (parting, {"teller": FOLLOWING, "book": WINDOW, "one": (0, 0), "other": (1, 0)}),
    (parting_error, {
        "teller": FOLLOWING, "book": UNDOING, "one": (0, 0), "other": (1, 0), "value": (("take right",), ["x", {}]),
    }),
    (ways, {"teller": HOLDING, "book": QUEUE}), (lot_of, {"teller": FOLLOWING, "book": QUEUE, "row": (1, 1, 0)}),
    (least_like, {"teller": FOLLOWING, "book": QUEUE, "row": (1, 1, 0)}),
    (need, {"teller": FOLLOWING, "book": UNDOING, "number": 9}),
    (needs, {"teller": FOLLOWING, "book": WINDOW, "number": 9}),
    (needs, {"teller": FOLLOWING, "book": ("put left",), "number": 9}),
    (bits, {"teller": FOLLOWING, "book": UNDOING, "number": 9}),
    (rule, {"teller": FOLLOWING, "book": QUEUE}),
    (rule_error, {"teller": FOLLOWING, "book": UNDOING, "value": ((1, 2, 4), (2, 0, 0))}),
    (rule_error, {"teller": FOLLOWING, "book": UNDOING, "value": ([1, {}], (2, 0, 0))}),
    (same_need, {"one": FOLLOWING, "book": UNDOING, "other": HOLDING, "another": QUEUE}),
    (grade, {"teller": FOLLOWING, "book": UNDOING}), (most, {"teller": BEGINS, "book": UNDOING}),
    (books_within, {"teller": FOLLOWING, "number": 1}),
    (fork, {"teller": ENDS, "book": UNDOING}),
    (fork_error, {"teller": ENDS, "book": UNDOING, "value": ((), [0, {1: []}], (1,))}),
    (fork_least, {"paper": ((), (0, 0), (1, 1)), "number": 8}),
    (rings, {"teller": FOLLOWING, "book": UNDOING}),
    (rings_error, {"teller": FOLLOWING, "book": UNDOING, "value": RING_PAPER[:1] * 2}),
    (rings_error, {"teller": FOLLOWING, "book": UNDOING, "value": ([(), {}], (0,))}),
    (rings_least, {"paper": RING_PAPER, "number": 7}),
    (window_ways, {"teller": EVEN}), (window_need, {"teller": EVEN, "number": 6}),
    (window_items, {"teller": EVEN, "rest": 1, "row": (1, 0)}),
    (window_place, {"teller": EVEN, "rest": 1, "row": (0,)}),
    (window_grades, {"teller": EVEN}),
    (window_fork, {"teller": EVEN, "rest": 1}), (window_fork, {"teller": EVEN, "rest": 0}),
    (window_fork_error, {"teller": EVEN, "rest": 1, "value": ((), (0, 0), (1, 0))}),
    (window_fork_error, {"teller": EVEN, "rest": 1, "value": ((), [0, {1: []}], (1,))}),
    (window_rings, {"teller": TWO, "rest": 0}), (window_rings, {"teller": EVEN, "rest": 1}),
    (window_rings_error, {"teller": TWO, "rest": 0, "value": TWO_PAPER}),
    (window_rings_error, {"teller": TWO, "rest": 0, "value": ([(), {}], (0,))}),
    (table_error, {"book": LOG, "many": 2, "value": TABLE}),
    (table_error, {"book": LOG, "many": 2, "value": [TABLE, {0: [1]}]}),
    (table_error, {"book": LOG, "many": 2, "value": (TABLE[0], ((0, 1), ((1, (None, None)), (0, (None, [{}])))))}),
    (made, {"teller": FOLLOWING, "book": QUEUE, "size": 2}), (counts, {"table": TABLE}),
    (answers, {"book": LOG, "many": 2, "table": TABLE, "row": (), "deeds": (("put right", 1),)}),
    (broken, {"teller": FOLLOWING, "book": LOG, "table": TABLE}),
    (broken, {"teller": ENDS, "book": LOG, "table": TABLE}),
    (small, {"book": LOG, "many": 2, "table": made(FOLLOWING, LOG, 1)}),
    (pack, {"teller": FOLLOWING, "book": QUEUE, "row": (1, 1, 0, 0, 1, 0)}),
    (width, {"teller": FOLLOWING, "book": QUEUE}),
    (pack_error, {"teller": FOLLOWING, "book": UNDOING, "value": PACK}),
    (pack_error, {"teller": FOLLOWING, "book": UNDOING, "value": ([0, {}], (0, 0))}),
    (pack_error, {"teller": FOLLOWING, "book": UNDOING, "value": PACK[:1] * 2}),
    (length_of, {"some": PACK}), (pack_tells, {"teller": FOLLOWING, "book": UNDOING, "some": PACK}),
    (pack_after, {"teller": FOLLOWING, "book": UNDOING, "some": PACK, "deed": ("put right", 0)}),
    (pack_after, {"teller": FOLLOWING, "book": UNDOING, "some": PACK, "deed": ("take right",)}),
    (pack_place, {"teller": FOLLOWING, "book": UNDOING, "some": ((0, 2), (1, 1), (2, 1))}),
    (pack_at, {"teller": FOLLOWING, "book": UNDOING, "length": 5, "number": 9}),
    (log_text, {"log": CALLS_OF_A_LOG}), (read_log, {"value": log_text(CALLS_OF_A_LOG)}),
    (bench_read, {"book": QUEUE, "many": 3}), (bench_asked, {"book": UNDOING, "many": 2, "value": CALLS_OF_A_LOG}),
    (said, {"lines": ("bench 2 put right, take left", "known next", "load 0 1", "needs", [], "put right 7", "run")}),
)
# These tell whether something holds, by True or False.
BOOL_CALLS = (
    (is_bare, {"book": BARE}), (is_bare, {"book": QUEUE}),
    (told_apart, {"teller": FOLLOWING, "book": QUEUE, "one": (0, 1), "other": (1, 0)}),
    (told_apart, {"teller": FOLLOWING, "book": QUEUE, "one": (0, 0), "other": (1, 0)}),
    (go_alike, {"teller": FOLLOWING, "book": UNDOING, "one": (), "other": (1, 1, 1)}),
    (go_alike, {"teller": FOLLOWING, "book": UNDOING, "one": (), "other": (0,)}),
    (window_alike, {"teller": EVEN, "rest": 1, "one": (), "other": (0, 0)}),
    (window_alike, {"teller": EVEN, "rest": 1, "one": (), "other": (0,)}),
)
REFUSED = (
    (parting_row, {"one": FOLLOWING, "other": (((0,),), (0,))}, Unfit, {}),
    (mirrored, {"teller": FIFTH}, TooMany, {"limit": 24}),
    (paired, {"one": FOLLOWING, "other": HOLDING}, Unfit, {}),
    (joined, {"some": ()}, Unfit, {}),
    (changed, {"teller": FOLLOWING, "table": [0, 1]}, Unfit, {}),
    (changed, {"teller": FOLLOWING, "table": {0: [1]}}, Unfit, {}),
    (read_teller, {"value": "0 tells 0\n"}, BadText, {"line": 1}),
    (read_teller, {"value": ["0 tells 7", {0: [1]}]}, BadText, {"line": 0}),
    (known_teller, {"name": "next", "many": [2]}, Unfit, {}), (known_teller, {"name": ["next"], "many": 2}, Unfit, {}),
    (mirrored_book, {"book": WINDOW}, Unfit, {}),
    (after, {"book": QUEUE, "many": 2, "row": (0,), "deed": ("take right",)}, Refused, {"word": "book"}),
    (after, {"book": QUEUE, "many": 2, "row": (0,), "deed": ["take left", {0: []}]}, Refused, {"word": "form"}),
    (led, {"book": QUEUE, "many": 2, "row": (0,), "deeds": (("take left",), [{}])}, BadRun, {"place": 1}),
    (led, {"book": QUEUE, "many": 2, "row": (0,), "deeds": ([],) * 201}, TooMany, {"limit": 200}),
    (read_run, {"value": "row\nslide"}, BadText, {"line": 1}), (read_run, {"value": [[], {}]}, BadText, {"line": 0}),
    (read_book, {"value": "slide, slide"}, BadText, {"line": 0}),
    (read_book, {"value": ["none"]}, BadText, {"line": 0}),
    (class_of, {"teller": FOLLOWING, "book": WINDOW, "row": ()}, Unfit, {}),
    (agreement, {"teller": FOLLOWING, "number": [1]}, Unfit, {}),
    (turns, {"teller": long_turning(12)}, TooMany, {"limit": 300}),
    (history, {"teller": FOLLOWING, "book": BARE, "row": ()}, Unfit, {}),
    (told_apart, {"teller": FOLLOWING, "book": QUEUE, "one": (), "other": (0,)}, Unfit, {}),
    (parting, {"teller": FOLLOWING, "book": QUEUE, "one": (), "other": (0,)}, Unfit, {}),
    (parting_error, {"teller": FOLLOWING, "book": BARE, "one": (), "other": (), "value": [{}]}, Unfit, {}),
    (ways, {"teller": FOLLOWING, "book": ()}, Unfit, {}), (ways, MANY_LOTS, TooMany, {"limit": 300}),
    (lot_of, {**MANY_LOTS, "row": ()}, TooMany, {"limit": 300}),
    (go_alike, {**MANY_LOTS, "one": (), "other": ()}, TooMany, {"limit": 300}),
    (least_like, {**MANY_LOTS, "row": ()}, TooMany, {"limit": 300}),
    (need, {"teller": FOLLOWING, "book": BARE, "number": 1}, Unfit, {}),
    (needs, {"teller": FOLLOWING, "book": (), "number": {0: [1]}}, Unfit, {}),
    (bits, {**MANY_LOTS, "number": 0}, TooMany, {"limit": 300}),
    (rule, MANY_LOTS, TooMany, {"limit": 300}), (rule_error, {**MANY_LOTS, "value": [{}]}, TooMany, {"limit": 300}),
    (same_need, {"one": FOLLOWING, "book": BARE, "other": FOLLOWING, "another": ()}, Unfit, {}),
    (grade, {"teller": FOLLOWING, "book": WINDOW}, Unfit, {}), (most, MANY_LOTS, TooMany, {"limit": 300}),
    (books_within, {"teller": FOLLOWING, "number": [{}]}, Unfit, {}),
    (fork, MANY_LOTS, TooMany, {"limit": 300}), (fork_error, {**MANY_LOTS, "value": [{}]}, TooMany, {"limit": 300}),
    (rings, {"teller": FOLLOWING, "book": ()}, Unfit, {}),
    (rings_error, {"teller": FOLLOWING, "book": WINDOW, "value": [{}]}, Unfit, {}),
    (window_ways, {"teller": long_turning(11)}, TooMany, {"limit": 300}),
    (window_need, {"teller": EVEN, "number": [{}]}, Unfit, {}),
    (window_items, {"teller": EVEN, "rest": {0: [1]}, "row": ()}, Unfit, {}),
    (window_place, {"teller": EVEN, "rest": 2, "row": ()}, Unfit, {}),
    (window_grades, {"teller": long_turning(11)}, TooMany, {"limit": 300}),
    (window_alike, {"teller": EVEN, "rest": [{}], "one": (), "other": ()}, Unfit, {}),
    (window_fork, {"teller": EVEN, "rest": {0: [1]}}, Unfit, {}),
    (window_fork_error, {"teller": EVEN, "rest": 2, "value": [{}]}, Unfit, {}),
    (window_rings, {"teller": long_turning(12), "rest": [{}]}, TooMany, {"limit": 300}),
    (window_rings_error, {"teller": EVEN, "rest": True, "value": [{}]}, Unfit, {}),
    (table_error, {"book": BARE, "many": 2, "value": [{}]}, Unfit, {}),
    (made, {"teller": FOLLOWING, "book": QUEUE, "size": [4]}, Unfit, {}),
    (answers, {"book": LOG, "many": 2, "table": TABLE, "row": (), "deeds": (("put right", 0), [{}])}, BadRun, {"place": 1}),
    (answers, {"book": LOG, "many": 2, "table": TABLE, "row": (0, 1), "deeds": ()}, Unfit, {}),
    (broken, {"teller": FOLLOWING, "book": BARE, "table": TABLE}, Unfit, {}),
    (small, {"book": BARE, "many": 2, "table": TABLE}, Unfit, {}),
    (pack, {"teller": ENDS, "book": UNDOING, "row": ()}, Unfit, {}), (width, MANY_LOTS, TooMany, {"limit": 300}),
    (pack_error, {"teller": FOLLOWING, "book": WINDOW, "value": [{}]}, Unfit, {}),
    (pack_tells, {"teller": ENDS, "book": UNDOING, "some": ((0, 0),)}, Unfit, {}),
    (pack_after, {"teller": FOLLOWING, "book": UNDOING, "some": PACK, "deed": ["put right", {}]}, Refused, {"word": "form"}),
    (pack_place, {"teller": FOLLOWING, "book": UNDOING, "some": PACK}, TooMany, {"limit": 300}),
    (pack_at, {"teller": FOLLOWING, "book": UNDOING, "length": [5], "number": {}}, Unfit, {}),
    (read_log, {"value": ["undo", {}]}, BadText, {"line": 0}), (read_log, {"value": "undo\nput right 3"}, BadText, {"line": 1}),
    (bench_behind, {"book": QUEUE, "many": 2, "value": (("load", ()), ["undo"])}, BadLog, {"place": 1}),
    (bench_behind, {"book": ["slide"], "many": {}, "value": [{}]}, Unfit, {}),
    (bench_read, {"book": QUEUE, "many": [2]}, Unfit, {}),
)


class TestConventions(Case):
    def test_calls_by_place_and_by_name(self):
        for call, arguments in CALLS + BOOL_CALLS:
            with self.subTest(call=call.__name__, arguments=arguments):
                by_place = call(*arguments.values())
                self.assertSame(call(**arguments), by_place)
                self.assertSame(call(**dict(reversed(list(arguments.items())))), by_place)

    def test_errors_by_place_and_by_name(self):
        for call, arguments, error, fields in REFUSED:
            with self.subTest(call=call.__name__, arguments=arguments):
                self.assertRaised(error, fields, call, *arguments.values())
                self.assertRaised(error, fields, call, **arguments)

    def test_what_is_handed_in_is_not_changed(self):
        for call, arguments in CALLS + BOOL_CALLS:
            with self.subTest(call=call.__name__, arguments=arguments):
                given = copy.deepcopy(arguments)
                call(**given)
                self.assertSame(given, arguments)
        for call, arguments, _, _ in REFUSED:
            with self.subTest(call=call.__name__, arguments=arguments):
                given = copy.deepcopy(arguments)
                self.assertRaises(ValueError, call, **given)
                self.assertSame(given, arguments)

    def test_equal_calls_get_equal_results(self):
        first = [call(**arguments) for call, arguments in CALLS + BOOL_CALLS]
        again = [call(**copy.deepcopy(arguments)) for call, arguments in reversed(CALLS + BOOL_CALLS)]
        self.assertSame(again[::-1], first)

    def test_what_was_returned_may_be_handed_in(self):
        self.assertSame(teller_error(teller_error(())), "form")
        self.assertSame(row_error(2, FOLLOWING), ("letter", 0))
        self.assertSame(row_error(2, ("letter", 0)), ("letter", 0))
        self.assertSame(row_error(2, FOLLOWING[1]), None)
        self.assertRaised(Unfit, {}, changed, ENDS, FOLLOWING)
        self.assertSame(changed(ENDS, FOLLOWING[1]), (((0, 0),), (0,)))
        self.assertSame(book_error(all_books()), ("word", 0))
        self.assertSame(book_error(all_books()[5] + (all_books(),)), ("word", len(all_books()[5])))
        self.assertSame(deed_error(QUEUE, 2, (), deeds_of(QUEUE, 2)), "form")
        self.assertSame(deed_error(QUEUE, 2, (), deeds_of(QUEUE, 2)[1]), None)
        self.assertRaised(Unfit, {}, known_teller, known_names(), 2)
        self.assertRaised(Unfit, {}, known_teller, "next", known_teller("next", 2))
        self.assertRaised(BadText, {"line": 0}, read_teller, run_text((0,), ()))
        self.assertRaised(BadText, {"line": 0}, read_run, teller_text(FOLLOWING))
        self.assertRaised(BadText, {"line": 0}, read_book, read_book("slide"))
        self.assertRaised(BadText, {"line": 201}, read_run, run_text((0,) * 40, (("slide", 1),) * 200) + "\nslide 1")
        self.assertRaised(BadText, {"line": 24}, read_teller, "\n".join([teller_text(FOLLOWING)] * 9))

    def test_whether_is_told_by_bools(self):
        self.assertSame([call(**arguments) for call, arguments in BOOL_CALLS], [True, False] * 4)

    def test_values_of_other_kinds_that_were_returned(self):
        returned = [call(**arguments) for call, arguments in CALLS]
        for value in returned:
            with self.subTest(value=value):
                found = parting_error(FOLLOWING, UNDOING, (0,), (1,), value)
                self.assertIn(found if isinstance(found, str) else found[0], ("form", "alike", "deed"))
                self.assertIn(rule_error(FOLLOWING, UNDOING, value), ("form", ("need", 0), ("need", 1), ("need", 2)))
                self.assertIn(fork_error(FOLLOWING, UNDOING, value), ("form", "lengths", "begin", "alike", "onward"))
                if value != rings(FOLLOWING, UNDOING):
                    found = rings_error(FOLLOWING, UNDOING, value)
                    self.assertIn(found if isinstance(found, str) else found[0], ("form", "ring", "way"))
                self.assertIn(window_fork_error(EVEN, 1, value), ("form", "lengths", "begin", "alike", "onward", None))
                found = window_rings_error(EVEN, 1, value)
                self.assertTrue(found is None or found == "form" or found[0] in ("ring", "way"))
                found = table_error(LOG, 2, value)
                self.assertEqual(found is None, value in (TABLE, small(LOG, 2, made(FOLLOWING, LOG, 1))))
                found = pack_error(FOLLOWING, UNDOING, value)
                self.assertTrue(found is None or found == "form" or found[0] == "block")
                self.assertRaises((Unfit, BadLog), bench_behind, UNDOING, 2, (value,))
                self.assertIn(Shell().say(value), ("what", "no bench"))
                if not isinstance(value, int):
                    self.assertRaised(Unfit, {}, window_alike, FOLLOWING, value, (), ())
                    self.assertRaised(Unfit, {}, window_fork, FOLLOWING, value)
                    self.assertRaised(Unfit, {}, made, FOLLOWING, UNDOING, value)
                    self.assertRaised(Unfit, {}, pack_at, FOLLOWING, UNDOING, 2, value)
                    self.assertRaised(Unfit, {}, agreement, FOLLOWING, value)
                    self.assertRaised(Unfit, {}, need, FOLLOWING, UNDOING, value)
                    self.assertRaised(Unfit, {}, books_within, FOLLOWING, value)
                    self.assertRaised(Unfit, {}, window_need, FOLLOWING, value)
                    self.assertRaised(Unfit, {}, window_items, FOLLOWING, value, ())
                    self.assertRaised(Unfit, {}, window_place, FOLLOWING, value, ())

    def test_numbers_are_integers_and_no_bools(self):
        for call, arguments in CALLS:
            with self.subTest(call=call.__name__, arguments=arguments):
                self.assertNotIn("True", repr(call(**arguments)))
                self.assertNotIn("False", repr(call(**arguments)))
