"""[A3]: calls by place and by name, equal calls, and what is handed in stays as it is."""

import copy

from endkeepers.errors import TooMany, Unfit
from endkeepers.joining import changed, joined, mirrored, paired
from endkeepers.tellers import kinds, least, parting_row, row_error, teller_error, told

from tests.helping import BEGINS, ENDS, FIFTH, FOLLOWING, HOLDING, LEAST_HOLDING, Case

CALLS = (
    (teller_error, {"value": HOLDING}), (teller_error, {"value": [[[0]], {0: [1]}]}),
    (teller_error, {"value": (([0],), (0,))}), (teller_error, {"value": (((0,),), ([],))}),
    (kinds, {"teller": HOLDING}),
    (row_error, {"many": 2, "value": (0, 1)}), (row_error, {"many": 1, "value": (0, 1)}),
    (row_error, {"many": 3, "value": [0, {1: [2]}]}), (row_error, {"many": 3, "value": (0, [1])}),
    (told, {"teller": FOLLOWING, "row": (1, 0, 1)}),
    (least, {"teller": HOLDING}),
    (parting_row, {"one": BEGINS, "other": ENDS}), (parting_row, {"one": ENDS, "other": ENDS}),
    (mirrored, {"teller": FOLLOWING}),
    (paired, {"one": FOLLOWING, "other": LEAST_HOLDING}), (paired, {"one": LEAST_HOLDING, "other": FOLLOWING}),
    (joined, {"some": (FOLLOWING, HOLDING, ENDS)}),
    (changed, {"teller": FOLLOWING, "table": (4, 4)}), (changed, {"teller": FOLLOWING, "table": (4, 5)}),
)
REFUSED = (
    (parting_row, {"one": FOLLOWING, "other": (((0,),), (0,))}, Unfit, {}),
    (mirrored, {"teller": FIFTH}, TooMany, {"limit": 24}),
    (paired, {"one": FOLLOWING, "other": HOLDING}, Unfit, {}),
    (joined, {"some": ()}, Unfit, {}),
    (changed, {"teller": FOLLOWING, "table": [0, 1]}, Unfit, {}),
    (changed, {"teller": FOLLOWING, "table": {0: [1]}}, Unfit, {}),
)


class TestConventions(Case):
    def test_calls_by_place_and_by_name(self):
        for call, arguments in CALLS:
            with self.subTest(call=call.__name__, arguments=arguments):
                by_place = call(*arguments.values())
                self.assertSame(call(**arguments), by_place)
                self.assertSame(call(**dict(reversed(list(arguments.items())))), by_place)

    def test_errors_by_place_and_by_name(self):
        for call, arguments, error, fields in REFUSED:
            with self.subTest(call=call.__name__, arguments=arguments):
                self.assertRaised(error, fields, call, *arguments.values())
                self.assertRaised(error, fields, call, **arguments)

    def test_what_is_handed_in_is_not_changed(self):
        for call, arguments in CALLS:
            with self.subTest(call=call.__name__, arguments=arguments):
                given = copy.deepcopy(arguments)
                call(**given)
                self.assertSame(given, arguments)
        for call, arguments, _, _ in REFUSED:
            with self.subTest(call=call.__name__, arguments=arguments):
                given = copy.deepcopy(arguments)
                self.assertRaises(ValueError, call, **given)
                self.assertSame(given, arguments)

    def test_equal_calls_get_equal_results(self):
        first = [call(**arguments) for call, arguments in CALLS]
        again = [call(**copy.deepcopy(arguments)) for call, arguments in reversed(CALLS)]
        self.assertSame(again[::-1], first)

    def test_what_was_returned_may_be_handed_in(self):
        self.assertSame(teller_error(teller_error(())), "form")
        self.assertSame(row_error(2, FOLLOWING), ("letter", 0))
        self.assertSame(row_error(2, ("letter", 0)), ("letter", 0))
        self.assertSame(row_error(2, FOLLOWING[1]), None)
        self.assertRaised(Unfit, {}, changed, ENDS, FOLLOWING)
        self.assertSame(changed(ENDS, FOLLOWING[1]), (((0, 0),), (0,)))

    def test_numbers_are_integers_and_no_bools(self):
        for call, arguments in CALLS:
            with self.subTest(call=call.__name__, arguments=arguments):
                self.assertNotIn("True", repr(call(**arguments)))
                self.assertNotIn("False", repr(call(**arguments)))
