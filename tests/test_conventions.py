"""[A3]: calls by place and by name, equal calls, and what is handed in stays as it is."""

import copy

from endkeepers.amounts import bits, need, needs
from endkeepers.books import all_books, book_error, is_bare, mirrored_book
from endkeepers.classes import (
    action_of, agreement, class_of, letters_alike, state_of, thinned, told_from, turns,
)
from endkeepers.counting import go_alike, least_like, lot_of, ways
from endkeepers.errors import BadRun, BadText, Refused, TooMany, Unfit
from endkeepers.forkpapers import fork, fork_error, fork_least
from endkeepers.grades import books_within, grade, most
from endkeepers.histories import history, told_apart
from endkeepers.joining import changed, joined, mirrored, paired
from endkeepers.knowntellers import known_names, known_teller
from endkeepers.moving import after, deed_error, deeds_of, led, open_deeds
from endkeepers.partings import parting, parting_error
from endkeepers.ringpapers import rings, rings_error, rings_least
from endkeepers.rules import rule, rule_error, same_need
from endkeepers.runtexts import book_text, read_book, read_run, run_text
from endkeepers.tellers import kinds, least, parting_row, row_error, teller_error, told
from endkeepers.tellertexts import read_teller, teller_text
from endkeepers.windows import window_items, window_need, window_place, window_ways

from tests.edges import LOTS_301
from tests.helping import (
    ALL_ENDS, BARE, BEGINS, ENDS, FIFTH, FOLLOWING, HOLDING, LEAST_HOLDING, QUEUE, UNDOING, WINDOW, Case, long_turning,
)

EVEN = (((1, 2), (3, 3), (2, 2), (1, 1)), (0, 0, 0, 1))
MANY_LOTS = {"teller": LOTS_301[0][1], "book": LOTS_301[0][0]}
RING_PAPER = ((), (1,), (1, 0), (1, 0, 0), (1, 0, 0, 1), (1, 0, 0, 1, 0))

CALLS = (
    (teller_error, {"value": HOLDING}), (teller_error, {"value": [[[0]], {0: [1]}]}),
    (teller_error, {"value": (([0],), (0,))}), (teller_error, {"value": (((0,),), ([],))}),
    (kinds, {"teller": HOLDING}),
    (row_error, {"many": 2, "value": (0, 1)}), (row_error, {"many": 1, "value": (0, 1)}),
    (row_error, {"many": 3, "value": [0, {1: [2]}]}), (row_error, {"many": 3, "value": (0, [1])}),
    (told, {"teller": FOLLOWING, "row": (1, 0, 1)}),
    (least, {"teller": HOLDING}),
    (parting_row, {"one": BEGINS, "other": ENDS}), (parting_row, {"one": ENDS, "other": ENDS}),
    (mirrored, {"teller": FOLLOWING}),
    (paired, {"one": FOLLOWING, "other": LEAST_HOLDING}), (paired, {"one": LEAST_HOLDING, "other": FOLLOWING}),
    (joined, {"some": (FOLLOWING, HOLDING, ENDS)}),
    (changed, {"teller": FOLLOWING, "table": (4, 4)}), (changed, {"teller": FOLLOWING, "table": (4, 5)}),
    (teller_text, {"teller": HOLDING}), (read_teller, {"value": "0 tells 7"}),
    (read_teller, {"value": "1 0 1 tells 7\n1 1 0 tells 1"}),
    (known_names, {}), (known_teller, {"name": "next", "many": 3}), (known_teller, {"name": "length", "many": 1}),
    (book_error, {"value": QUEUE}), (book_error, {"value": ["slide", {0: [1]}]}), (book_error, {"value": ([0], "x")}),
    (book_error, {"value": ("slide", "slide")}), (all_books, {}),
    (mirrored_book, {"book": UNDOING}), (mirrored_book, {"book": ()}),
    (deeds_of, {"book": QUEUE, "many": 3}), (open_deeds, {"book": QUEUE, "many": 2, "row": ()}),
    (open_deeds, {"book": WINDOW, "many": 2, "row": (1, 0)}),
    (deed_error, {"book": QUEUE, "many": 1, "row": (), "value": ("put right", 0)}),
    (deed_error, {"book": QUEUE, "many": 1, "row": (), "value": ("put right", [0, {1: [2]}])}),
    (deed_error, {"book": QUEUE, "many": 1, "row": (), "value": ["take left", []]}),
    (deed_error, {"book": QUEUE, "many": 1, "row": (0,), "value": ([], {})}),
    (after, {"book": ("put left", "take left"), "many": 3, "row": (0, 1), "deed": ("put left", 2)}),
    (after, {"book": UNDOING, "many": 3, "row": (0, 1), "deed": ("take right",)}),
    (led, {"book": QUEUE, "many": 2, "row": (0, 1), "deeds": (("take left",), ("put right", 0))}),
    (led, {"book": (), "many": 2, "row": (), "deeds": ()}),
    (run_text, {"row": (1, 0), "deeds": (("slide", 1), ("take left",))}), (read_run, {"value": "row 1\nslide 0"}),
    (book_text, {"book": ()}), (book_text, {"book": QUEUE}), (read_book, {"value": "put right, take left"}),
    (state_of, {"teller": HOLDING, "row": (1, 0)}), (told_from, {"teller": HOLDING, "row": (1, 0)}),
    (action_of, {"teller": FOLLOWING, "row": (1, 0)}), (class_of, {"teller": HOLDING, "book": QUEUE, "row": (0, 1)}),
    (letters_alike, {"teller": HOLDING}), (thinned, {"teller": HOLDING}),
    (agreement, {"teller": EVEN, "number": 2}), (turns, {"teller": EVEN}),
    (history, {"teller": FOLLOWING, "book": WINDOW, "row": (1, 0, 1)}),
    (history, {"teller": FOLLOWING, "book": ALL_ENDS, "row": (1, 0, 1)}),
    (parting, {"teller": FOLLOWING, "book": UNDOING, "one": (0, 0), "other": (1, 0)}),
    (parting, {"teller": FOLLOWING, "book": WINDOW, "one": (0, 0), "other": (1, 0)}),
    (parting_error, {
        "teller": FOLLOWING, "book": UNDOING, "one": (0, 0), "other": (1, 0), "value": (("take right",), ["x", {}]),
    }),
    (ways, {"teller": HOLDING, "book": QUEUE}), (lot_of, {"teller": FOLLOWING, "book": QUEUE, "row": (1, 1, 0)}),
    (least_like, {"teller": FOLLOWING, "book": QUEUE, "row": (1, 1, 0)}),
    (need, {"teller": FOLLOWING, "book": UNDOING, "number": 9}),
    (needs, {"teller": FOLLOWING, "book": WINDOW, "number": 9}),
    (needs, {"teller": FOLLOWING, "book": ("put left",), "number": 9}),
    (bits, {"teller": FOLLOWING, "book": UNDOING, "number": 9}),
    (rule, {"teller": FOLLOWING, "book": QUEUE}),
    (rule_error, {"teller": FOLLOWING, "book": UNDOING, "value": ((1, 2, 4), (2, 0, 0))}),
    (rule_error, {"teller": FOLLOWING, "book": UNDOING, "value": ([1, {}], (2, 0, 0))}),
    (same_need, {"one": FOLLOWING, "book": UNDOING, "other": HOLDING, "another": QUEUE}),
    (grade, {"teller": FOLLOWING, "book": UNDOING}), (most, {"teller": BEGINS, "book": UNDOING}),
    (books_within, {"teller": FOLLOWING, "number": 1}),
    (fork, {"teller": ENDS, "book": UNDOING}),
    (fork_error, {"teller": ENDS, "book": UNDOING, "value": ((), [0, {1: []}], (1,))}),
    (fork_least, {"paper": ((), (0, 0), (1, 1)), "number": 8}),
    (rings, {"teller": FOLLOWING, "book": UNDOING}),
    (rings_error, {"teller": FOLLOWING, "book": UNDOING, "value": RING_PAPER[:1] * 2}),
    (rings_error, {"teller": FOLLOWING, "book": UNDOING, "value": ([(), {}], (0,))}),
    (rings_least, {"paper": RING_PAPER, "number": 7}),
    (window_ways, {"teller": EVEN}), (window_need, {"teller": EVEN, "number": 6}),
    (window_items, {"teller": EVEN, "rest": 1, "row": (1, 0)}),
    (window_place, {"teller": EVEN, "rest": 1, "row": (0,)}),
)
# These tell whether something holds, by True or False.
BOOL_CALLS = (
    (is_bare, {"book": BARE}), (is_bare, {"book": QUEUE}),
    (told_apart, {"teller": FOLLOWING, "book": QUEUE, "one": (0, 1), "other": (1, 0)}),
    (told_apart, {"teller": FOLLOWING, "book": QUEUE, "one": (0, 0), "other": (1, 0)}),
    (go_alike, {"teller": FOLLOWING, "book": UNDOING, "one": (), "other": (1, 1, 1)}),
    (go_alike, {"teller": FOLLOWING, "book": UNDOING, "one": (), "other": (0,)}),
)
REFUSED = (
    (parting_row, {"one": FOLLOWING, "other": (((0,),), (0,))}, Unfit, {}),
    (mirrored, {"teller": FIFTH}, TooMany, {"limit": 24}),
    (paired, {"one": FOLLOWING, "other": HOLDING}, Unfit, {}),
    (joined, {"some": ()}, Unfit, {}),
    (changed, {"teller": FOLLOWING, "table": [0, 1]}, Unfit, {}),
    (changed, {"teller": FOLLOWING, "table": {0: [1]}}, Unfit, {}),
    (read_teller, {"value": "0 tells 0\n"}, BadText, {"line": 1}),
    (read_teller, {"value": ["0 tells 7", {0: [1]}]}, BadText, {"line": 0}),
    (known_teller, {"name": "next", "many": [2]}, Unfit, {}), (known_teller, {"name": ["next"], "many": 2}, Unfit, {}),
    (mirrored_book, {"book": WINDOW}, Unfit, {}),
    (after, {"book": QUEUE, "many": 2, "row": (0,), "deed": ("take right",)}, Refused, {"word": "book"}),
    (after, {"book": QUEUE, "many": 2, "row": (0,), "deed": ["take left", {0: []}]}, Refused, {"word": "form"}),
    (led, {"book": QUEUE, "many": 2, "row": (0,), "deeds": (("take left",), [{}])}, BadRun, {"place": 1}),
    (led, {"book": QUEUE, "many": 2, "row": (0,), "deeds": ([],) * 201}, TooMany, {"limit": 200}),
    (read_run, {"value": "row\nslide"}, BadText, {"line": 1}), (read_run, {"value": [[], {}]}, BadText, {"line": 0}),
    (read_book, {"value": "slide, slide"}, BadText, {"line": 0}),
    (read_book, {"value": ["none"]}, BadText, {"line": 0}),
    (class_of, {"teller": FOLLOWING, "book": WINDOW, "row": ()}, Unfit, {}),
    (agreement, {"teller": FOLLOWING, "number": [1]}, Unfit, {}),
    (turns, {"teller": long_turning(12)}, TooMany, {"limit": 300}),
    (history, {"teller": FOLLOWING, "book": BARE, "row": ()}, Unfit, {}),
    (told_apart, {"teller": FOLLOWING, "book": QUEUE, "one": (), "other": (0,)}, Unfit, {}),
    (parting, {"teller": FOLLOWING, "book": QUEUE, "one": (), "other": (0,)}, Unfit, {}),
    (parting_error, {"teller": FOLLOWING, "book": BARE, "one": (), "other": (), "value": [{}]}, Unfit, {}),
    (ways, {"teller": FOLLOWING, "book": ()}, Unfit, {}), (ways, MANY_LOTS, TooMany, {"limit": 300}),
    (lot_of, {**MANY_LOTS, "row": ()}, TooMany, {"limit": 300}),
    (go_alike, {**MANY_LOTS, "one": (), "other": ()}, TooMany, {"limit": 300}),
    (least_like, {**MANY_LOTS, "row": ()}, TooMany, {"limit": 300}),
    (need, {"teller": FOLLOWING, "book": BARE, "number": 1}, Unfit, {}),
    (needs, {"teller": FOLLOWING, "book": (), "number": {0: [1]}}, Unfit, {}),
    (bits, {**MANY_LOTS, "number": 0}, TooMany, {"limit": 300}),
    (rule, MANY_LOTS, TooMany, {"limit": 300}), (rule_error, {**MANY_LOTS, "value": [{}]}, TooMany, {"limit": 300}),
    (same_need, {"one": FOLLOWING, "book": BARE, "other": FOLLOWING, "another": ()}, Unfit, {}),
    (grade, {"teller": FOLLOWING, "book": WINDOW}, Unfit, {}), (most, MANY_LOTS, TooMany, {"limit": 300}),
    (books_within, {"teller": FOLLOWING, "number": [{}]}, Unfit, {}),
    (fork, MANY_LOTS, TooMany, {"limit": 300}), (fork_error, {**MANY_LOTS, "value": [{}]}, TooMany, {"limit": 300}),
    (rings, {"teller": FOLLOWING, "book": ()}, Unfit, {}),
    (rings_error, {"teller": FOLLOWING, "book": WINDOW, "value": [{}]}, Unfit, {}),
    (window_ways, {"teller": long_turning(11)}, TooMany, {"limit": 300}),
    (window_need, {"teller": EVEN, "number": [{}]}, Unfit, {}),
    (window_items, {"teller": EVEN, "rest": {0: [1]}, "row": ()}, Unfit, {}),
    (window_place, {"teller": EVEN, "rest": 2, "row": ()}, Unfit, {}),
)


class TestConventions(Case):
    def test_calls_by_place_and_by_name(self):
        for call, arguments in CALLS + BOOL_CALLS:
            with self.subTest(call=call.__name__, arguments=arguments):
                by_place = call(*arguments.values())
                self.assertSame(call(**arguments), by_place)
                self.assertSame(call(**dict(reversed(list(arguments.items())))), by_place)

    def test_errors_by_place_and_by_name(self):
        for call, arguments, error, fields in REFUSED:
            with self.subTest(call=call.__name__, arguments=arguments):
                self.assertRaised(error, fields, call, *arguments.values())
                self.assertRaised(error, fields, call, **arguments)

    def test_what_is_handed_in_is_not_changed(self):
        for call, arguments in CALLS + BOOL_CALLS:
            with self.subTest(call=call.__name__, arguments=arguments):
                given = copy.deepcopy(arguments)
                call(**given)
                self.assertSame(given, arguments)
        for call, arguments, _, _ in REFUSED:
            with self.subTest(call=call.__name__, arguments=arguments):
                given = copy.deepcopy(arguments)
                self.assertRaises(ValueError, call, **given)
                self.assertSame(given, arguments)

    def test_equal_calls_get_equal_results(self):
        first = [call(**arguments) for call, arguments in CALLS + BOOL_CALLS]
        again = [call(**copy.deepcopy(arguments)) for call, arguments in reversed(CALLS + BOOL_CALLS)]
        self.assertSame(again[::-1], first)

    def test_what_was_returned_may_be_handed_in(self):
        self.assertSame(teller_error(teller_error(())), "form")
        self.assertSame(row_error(2, FOLLOWING), ("letter", 0))
        self.assertSame(row_error(2, ("letter", 0)), ("letter", 0))
        self.assertSame(row_error(2, FOLLOWING[1]), None)
        self.assertRaised(Unfit, {}, changed, ENDS, FOLLOWING)
        self.assertSame(changed(ENDS, FOLLOWING[1]), (((0, 0),), (0,)))
        self.assertSame(book_error(all_books()), ("word", 0))
        self.assertSame(book_error(all_books()[5] + (all_books(),)), ("word", len(all_books()[5])))
        self.assertSame(deed_error(QUEUE, 2, (), deeds_of(QUEUE, 2)), "form")
        self.assertSame(deed_error(QUEUE, 2, (), deeds_of(QUEUE, 2)[1]), None)
        self.assertRaised(Unfit, {}, known_teller, known_names(), 2)
        self.assertRaised(Unfit, {}, known_teller, "next", known_teller("next", 2))
        self.assertRaised(BadText, {"line": 0}, read_teller, run_text((0,), ()))
        self.assertRaised(BadText, {"line": 0}, read_run, teller_text(FOLLOWING))
        self.assertRaised(BadText, {"line": 0}, read_book, read_book("slide"))
        self.assertRaised(BadText, {"line": 201}, read_run, run_text((0,) * 40, (("slide", 1),) * 200) + "\nslide 1")
        self.assertRaised(BadText, {"line": 24}, read_teller, "\n".join([teller_text(FOLLOWING)] * 9))

    def test_whether_is_told_by_bools(self):
        self.assertSame([call(**arguments) for call, arguments in BOOL_CALLS], [True, False] * 3)

    def test_values_of_other_kinds_that_were_returned(self):
        returned = [call(**arguments) for call, arguments in CALLS]
        for value in returned:
            with self.subTest(value=value):
                found = parting_error(FOLLOWING, UNDOING, (0,), (1,), value)
                self.assertIn(found if isinstance(found, str) else found[0], ("form", "alike", "deed"))
                self.assertIn(rule_error(FOLLOWING, UNDOING, value), ("form", ("need", 0), ("need", 1), ("need", 2)))
                self.assertIn(fork_error(FOLLOWING, UNDOING, value), ("form", "lengths", "begin", "alike", "onward"))
                if value != rings(FOLLOWING, UNDOING):
                    found = rings_error(FOLLOWING, UNDOING, value)
                    self.assertIn(found if isinstance(found, str) else found[0], ("form", "ring", "way"))
                if not isinstance(value, int):
                    self.assertRaised(Unfit, {}, agreement, FOLLOWING, value)
                    self.assertRaised(Unfit, {}, need, FOLLOWING, UNDOING, value)
                    self.assertRaised(Unfit, {}, books_within, FOLLOWING, value)
                    self.assertRaised(Unfit, {}, window_need, FOLLOWING, value)
                    self.assertRaised(Unfit, {}, window_items, FOLLOWING, value, ())
                    self.assertRaised(Unfit, {}, window_place, FOLLOWING, value, ())

    def test_numbers_are_integers_and_no_bools(self):
        for call, arguments in CALLS:
            with self.subTest(call=call.__name__, arguments=arguments):
                self.assertNotIn("True", repr(call(**arguments)))
                self.assertNotIn("False", repr(call(**arguments)))
