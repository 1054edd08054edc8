"""[A3]: calls by place and by name, equal calls, and what is handed in stays as it is."""

import copy

from endkeepers.books import all_books, book_error, is_bare, mirrored_book
from endkeepers.errors import BadRun, BadText, Refused, TooMany, Unfit
from endkeepers.joining import changed, joined, mirrored, paired
from endkeepers.knowntellers import known_names, known_teller
from endkeepers.moving import after, deed_error, deeds_of, led, open_deeds
from endkeepers.runtexts import book_text, read_book, read_run, run_text
from endkeepers.tellers import kinds, least, parting_row, row_error, teller_error, told
from endkeepers.tellertexts import read_teller, teller_text

from tests.helping import (
    BARE, BEGINS, ENDS, FIFTH, FOLLOWING, HOLDING, LEAST_HOLDING, QUEUE, UNDOING, WINDOW, Case,
)

CALLS = (
    (teller_error, {"value": HOLDING}), (teller_error, {"value": [[[0]], {0: [1]}]}),
    (teller_error, {"value": (([0],), (0,))}), (teller_error, {"value": (((0,),), ([],))}),
    (kinds, {"teller": HOLDING}),
    (row_error, {"many": 2, "value": (0, 1)}), (row_error, {"many": 1, "value": (0, 1)}),
    (row_error, {"many": 3, "value": [0, {1: [2]}]}), (row_error, {"many": 3, "value": (0, [1])}),
    (told, {"teller": FOLLOWING, "row": (1, 0, 1)}),
    (least, {"teller": HOLDING}),
    (parting_row, {"one": BEGINS, "other": ENDS}), (parting_row, {"one": ENDS, "other": ENDS}),
    (mirrored, {"teller": FOLLOWING}),
    (paired, {"one": FOLLOWING, "other": LEAST_HOLDING}), (paired, {"one": LEAST_HOLDING, "other": FOLLOWING}),
    (joined, {"some": (FOLLOWING, HOLDING, ENDS)}),
    (changed, {"teller": FOLLOWING, "table": (4, 4)}), (changed, {"teller": FOLLOWING, "table": (4, 5)}),
    (teller_text, {"teller": HOLDING}), (read_teller, {"value": "0 tells 7"}),
    (read_teller, {"value": "1 0 1 tells 7\n1 1 0 tells 1"}),
    (known_names, {}), (known_teller, {"name": "next", "many": 3}), (known_teller, {"name": "length", "many": 1}),
    (book_error, {"value": QUEUE}), (book_error, {"value": ["slide", {0: [1]}]}), (book_error, {"value": ([0], "x")}),
    (book_error, {"value": ("slide", "slide")}), (all_books, {}),
    (mirrored_book, {"book": UNDOING}), (mirrored_book, {"book": ()}),
    (deeds_of, {"book": QUEUE, "many": 3}), (open_deeds, {"book": QUEUE, "many": 2, "row": ()}),
    (open_deeds, {"book": WINDOW, "many": 2, "row": (1, 0)}),
    (deed_error, {"book": QUEUE, "many": 1, "row": (), "value": ("put right", 0)}),
    (deed_error, {"book": QUEUE, "many": 1, "row": (), "value": ("put right", [0, {1: [2]}])}),
    (deed_error, {"book": QUEUE, "many": 1, "row": (), "value": ["take left", []]}),
    (deed_error, {"book": QUEUE, "many": 1, "row": (0,), "value": ([], {})}),
    (after, {"book": ("put left", "take left"), "many": 3, "row": (0, 1), "deed": ("put left", 2)}),
    (after, {"book": UNDOING, "many": 3, "row": (0, 1), "deed": ("take right",)}),
    (led, {"book": QUEUE, "many": 2, "row": (0, 1), "deeds": (("take left",), ("put right", 0))}),
    (led, {"book": (), "many": 2, "row": (), "deeds": ()}),
    (run_text, {"row": (1, 0), "deeds": (("slide", 1), ("take left",))}), (read_run, {"value": "row 1\nslide 0"}),
    (book_text, {"book": ()}), (book_text, {"book": QUEUE}), (read_book, {"value": "put right, take left"}),
)
REFUSED = (
    (parting_row, {"one": FOLLOWING, "other": (((0,),), (0,))}, Unfit, {}),
    (mirrored, {"teller": FIFTH}, TooMany, {"limit": 24}),
    (paired, {"one": FOLLOWING, "other": HOLDING}, Unfit, {}),
    (joined, {"some": ()}, Unfit, {}),
    (changed, {"teller": FOLLOWING, "table": [0, 1]}, Unfit, {}),
    (changed, {"teller": FOLLOWING, "table": {0: [1]}}, Unfit, {}),
    (read_teller, {"value": "0 tells 0\n"}, BadText, {"line": 1}),
    (read_teller, {"value": ["0 tells 7", {0: [1]}]}, BadText, {"line": 0}),
    (known_teller, {"name": "next", "many": [2]}, Unfit, {}), (known_teller, {"name": ["next"], "many": 2}, Unfit, {}),
    (mirrored_book, {"book": WINDOW}, Unfit, {}),
    (after, {"book": QUEUE, "many": 2, "row": (0,), "deed": ("take right",)}, Refused, {"word": "book"}),
    (after, {"book": QUEUE, "many": 2, "row": (0,), "deed": ["take left", {0: []}]}, Refused, {"word": "form"}),
    (led, {"book": QUEUE, "many": 2, "row": (0,), "deeds": (("take left",), [{}])}, BadRun, {"place": 1}),
    (led, {"book": QUEUE, "many": 2, "row": (0,), "deeds": ([],) * 201}, TooMany, {"limit": 200}),
    (read_run, {"value": "row\nslide"}, BadText, {"line": 1}), (read_run, {"value": [[], {}]}, BadText, {"line": 0}),
    (read_book, {"value": "slide, slide"}, BadText, {"line": 0}),
    (read_book, {"value": ["none"]}, BadText, {"line": 0}),
)


class TestConventions(Case):
    def test_calls_by_place_and_by_name(self):
        for call, arguments in CALLS:
            with self.subTest(call=call.__name__, arguments=arguments):
                by_place = call(*arguments.values())
                self.assertSame(call(**arguments), by_place)
                self.assertSame(call(**dict(reversed(list(arguments.items())))), by_place)

    def test_errors_by_place_and_by_name(self):
        for call, arguments, error, fields in REFUSED:
            with self.subTest(call=call.__name__, arguments=arguments):
                self.assertRaised(error, fields, call, *arguments.values())
                self.assertRaised(error, fields, call, **arguments)

    def test_what_is_handed_in_is_not_changed(self):
        for call, arguments in CALLS:
            with self.subTest(call=call.__name__, arguments=arguments):
                given = copy.deepcopy(arguments)
                call(**given)
                self.assertSame(given, arguments)
        for call, arguments, _, _ in REFUSED:
            with self.subTest(call=call.__name__, arguments=arguments):
                given = copy.deepcopy(arguments)
                self.assertRaises(ValueError, call, **given)
                self.assertSame(given, arguments)

    def test_equal_calls_get_equal_results(self):
        first = [call(**arguments) for call, arguments in CALLS]
        again = [call(**copy.deepcopy(arguments)) for call, arguments in reversed(CALLS)]
        self.assertSame(again[::-1], first)

    def test_what_was_returned_may_be_handed_in(self):
        self.assertSame(teller_error(teller_error(())), "form")
        self.assertSame(row_error(2, FOLLOWING), ("letter", 0))
        self.assertSame(row_error(2, ("letter", 0)), ("letter", 0))
        self.assertSame(row_error(2, FOLLOWING[1]), None)
        self.assertRaised(Unfit, {}, changed, ENDS, FOLLOWING)
        self.assertSame(changed(ENDS, FOLLOWING[1]), (((0, 0),), (0,)))
        self.assertSame(book_error(all_books()), ("word", 0))
        self.assertSame(book_error(all_books()[5] + (all_books(),)), ("word", len(all_books()[5])))
        self.assertSame(deed_error(QUEUE, 2, (), deeds_of(QUEUE, 2)), "form")
        self.assertSame(deed_error(QUEUE, 2, (), deeds_of(QUEUE, 2)[1]), None)
        self.assertRaised(Unfit, {}, known_teller, known_names(), 2)
        self.assertRaised(Unfit, {}, known_teller, "next", known_teller("next", 2))
        self.assertRaised(BadText, {"line": 0}, read_teller, run_text((0,), ()))
        self.assertRaised(BadText, {"line": 0}, read_run, teller_text(FOLLOWING))
        self.assertRaised(BadText, {"line": 0}, read_book, read_book("slide"))
        self.assertRaised(BadText, {"line": 201}, read_run, run_text((0,) * 40, (("slide", 1),) * 200) + "\nslide 1")
        self.assertRaised(BadText, {"line": 24}, read_teller, "\n".join([teller_text(FOLLOWING)] * 9))

    def test_whether_is_told_by_bools(self):
        self.assertSame(is_bare(book=BARE), True)
        self.assertSame(is_bare(BARE), True)
        self.assertSame(is_bare(QUEUE), False)

    def test_numbers_are_integers_and_no_bools(self):
        for call, arguments in CALLS:
            with self.subTest(call=call.__name__, arguments=arguments):
                self.assertNotIn("True", repr(call(**arguments)))
                self.assertNotIn("False", repr(call(**arguments)))
