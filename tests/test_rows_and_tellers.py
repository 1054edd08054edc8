"""[A4] and [A5]: what is a teller, and what is a row."""

from endkeepers.tellers import kinds, row_error, teller_error

from tests.helping import FIFTH, FOLLOWING, HOLDING, LEAST_HOLDING, Case, chain, drawn_tellers, ring

# One value of each kind that a value may have, none of them a teller, a row or a number.
ODD_VALUES = (
    None, True, False, "", "01", "0 tells 7", [], [0], [1, [2, 3]], {}, {0: 1}, {(0,): [1]},
    ((((),),),), "x\ny",
)
NO_INTEGERS = (True, False, None, "0", "", (0,), [0], {}, {0: 0}, ((),))


def with_moves(*moves):
    return moves, (0,) * len(moves)


class TestTellerError(Case):
    def test_example(self):
        self.assertSame((teller_error(FOLLOWING), kinds(FOLLOWING)), (None, 2))
        values = (list(FOLLOWING), (FOLLOWING[0],), ((), ()), (((0,),) * 25, (0,) * 25), (FOLLOWING[0], [0, 0, 1]))
        self.assertSame([teller_error(value) for value in values], ["form", "form", "states", "states", "form"])
        some = (((1,),), ((),), ((0, 0, 0, 0),), ((False,),), ([0],), ((0,), (0, 0)), ((0,), (1,)))
        self.assertSame(
            [teller_error((moves, (0,))) for moves in some],
            [("moves", 0), ("moves", 0), ("moves", 0), ("moves", 0), ("moves", 0), ("moves", 1), "tells"],
        )
        numbers = ((0, 100), (0, True), (-1, 0), (0,), (0, 99))
        self.assertSame(
            [teller_error((((0,), (1,)), tells)) for tells in numbers],
            [("tell", 1), ("tell", 1), ("tell", 0), "tells", None],
        )

    def test_tellers(self):
        alone, three = (((0,),), (0,)), (((0, 0, 0),), (99,))
        for value in (HOLDING, LEAST_HOLDING, FIFTH, alone, three, ring(24, 23, 3), chain(24)):
            with self.subTest(value=value):
                self.assertIsNone(teller_error(value))
        for value in drawn_tellers(1, 100, 24, 3, 99):
            with self.subTest(value=value):
                self.assertIsNone(teller_error(value))

    def test_form(self):
        moves, tells = FOLLOWING
        values = ODD_VALUES + (
            0, 7, -1, 10 ** 400, (), (moves,), (tells,), (moves, tells, ()), (moves, tells, 0), (list(moves), tells),
            (moves, list(tells)), (moves, None), (None, tells), (moves, "001"), ("012", tells), (moves, 1),
            ({}, {}), ([], []), ((), []), (None, None), [moves, tells], {0: moves, 1: tells}, (moves, {0: 0}),
        )
        for value in values:
            with self.subTest(value=value):
                self.assertSame(teller_error(value), "form")

    def test_states(self):
        for many in (0, 25, 26, 100, 1000):
            with self.subTest(many=many):
                self.assertSame(teller_error((((0,),) * many, (0,) * many)), "states")
        for many in (1, 2, 23, 24):
            with self.subTest(many=many):
                self.assertIsNone(teller_error((((0,),) * many, (0,) * many)))

    def test_states_is_ahead_of_moves_and_tells(self):
        for value in (((), (0,)), ((), (True,)), (("x",) * 25, (0,) * 25), (((0,),) * 25, (0,)), (((25,),) * 25, ())):
            with self.subTest(value=value):
                self.assertSame(teller_error(value), "states")

    def test_numbers_of_kinds(self):
        for many, wanted in ((0, ("moves", 0)), (1, None), (2, None), (3, None), (4, ("moves", 0)), (5, ("moves", 0))):
            with self.subTest(many=many):
                self.assertSame(teller_error(with_moves((0,) * many)), wanted)
                self.assertSame(teller_error(with_moves((0,) * many, (0,) * many)), wanted)

    def test_first_wrong_item_of_moves(self):
        good = (0, 1)
        wrong_items = [(0,), (0, 1, 1), (), [0, 1], "01", None, 0, True, {0: 0, 1: 1}]
        wrong_items += [(0, 4), (4, 0), (-1, 0), (0, -1), (0, 10 ** 400)]
        wrong_items += [(0, odd) for odd in NO_INTEGERS] + [(odd, 0) for odd in NO_INTEGERS]
        for wrong in wrong_items:
            for place in (1, 2, 3):
                moves = [good] * 4
                moves[place] = wrong
                with self.subTest(wrong=wrong, place=place):
                    self.assertSame(teller_error(with_moves(*moves)), ("moves", place))
                    self.assertSame(teller_error((tuple(moves), (0, True))), ("moves", place))
                    self.assertSame(teller_error(with_moves(*moves[:place], *[wrong] * (4 - place))), ("moves", place))

    def test_wrong_item_0(self):
        wrong_items = [[0], "0", None, 0, True, {0: 0}, (1,), (-1,), (0, 1), (0, 0, 0, 0)]
        wrong_items += [(odd,) for odd in NO_INTEGERS]
        for wrong in wrong_items:
            with self.subTest(wrong=wrong):
                self.assertSame(teller_error(((wrong,), (0,))), ("moves", 0))
                self.assertSame(teller_error(((wrong,), ())), ("moves", 0))

    def test_wrong_item_0_stands_ahead_of_those_unlike_it(self):
        # The items 1 and 2 are as long as one another, but there are no such letters.
        self.assertSame(teller_error(with_moves((), (0,), (0,))), ("moves", 0))
        self.assertSame(teller_error(with_moves((0, 0, 0, 0), (0,), (0,))), ("moves", 0))

    def test_states_are_those_of_this_teller(self):
        self.assertSame(teller_error(with_moves((1,), (2,))), ("moves", 1))
        self.assertSame(teller_error(with_moves((1,), (2,), (3,))), ("moves", 2))
        self.assertIsNone(teller_error(with_moves((1,), (2,), (2,))))
        self.assertIsNone(teller_error(with_moves(*[(23,)] * 24)))
        self.assertSame(teller_error(with_moves(*[(24,)] * 24)), ("moves", 0))

    def test_numbers_of_tells(self):
        moves = ((0,), (1,))
        for many in (0, 1, 3, 25):
            with self.subTest(many=many):
                self.assertSame(teller_error((moves, (0,) * many)), "tells")
                self.assertSame(teller_error((moves, (True,) * many)), "tells")
                self.assertSame(teller_error((moves, (100,) * many)), "tells")

    def test_first_wrong_number(self):
        moves = ((0,), (1,), (2,))
        for wrong in NO_INTEGERS + (-1, 100, 101, 10 ** 400, -10 ** 400):
            for place in range(3):
                tells = [0, 99, 1]
                tells[place] = wrong
                rest_wrong = tells[:place] + [wrong] * (3 - place)
                with self.subTest(wrong=wrong, place=place):
                    self.assertSame(teller_error((moves, tuple(tells))), ("tell", place))
                    self.assertSame(teller_error((moves, tuple(rest_wrong))), ("tell", place))

    def test_numbers_at_their_bounds(self):
        for number in (0, 1, 50, 98, 99):
            with self.subTest(number=number):
                self.assertIsNone(teller_error((((0,),), (number,))))


class TestKinds(Case):
    def test_kinds(self):
        for many in (1, 2, 3):
            with self.subTest(many=many):
                self.assertSame(kinds((((0,) * many,), (0,))), many)
                self.assertSame(kinds(ring(24, 0, many)), many)
        self.assertSame([kinds(teller) for teller in (FOLLOWING, HOLDING, FIFTH)], [2, 2, 2])


class TestRowError(Case):
    def test_example(self):
        values = ((0, 1, 1), (), [0], (0,) * 41, (0, 2), (1, True))
        self.assertSame(
            [row_error(2, value) for value in values],
            [None, None, "form", "long", ("letter", 1), ("letter", 1)],
        )

    def test_rows(self):
        for many in (1, 2, 3):
            for row in ((), (many - 1,), (0, many - 1), (many - 1,) * 40, (0,) * 39):
                with self.subTest(many=many, row=row):
                    self.assertIsNone(row_error(many, row))

    def test_form(self):
        for value in (None, True, False, 0, 1, 10 ** 400, "", "01", [], [0], [2] * 41, {}, {0: 0}):
            with self.subTest(value=value):
                self.assertSame(row_error(2, value), "form")

    def test_long_is_ahead_of_letter(self):
        for length in (41, 42, 100, 900, 4000):
            for letter in (0, 2, True, None):
                with self.subTest(length=length, letter=letter):
                    self.assertSame(row_error(2, (letter,) * length), "long")

    def test_first_wrong_letter(self):
        for wrong in NO_INTEGERS + (-1, 3, 4, 10 ** 400):
            for place in (0, 1, 39):
                row = [2] * 40
                row[place] = wrong
                with self.subTest(wrong=wrong, place=place):
                    self.assertSame(row_error(3, tuple(row)), ("letter", place))
                    self.assertSame(row_error(3, tuple(row[:place] + [wrong] * (40 - place))), ("letter", place))

    def test_letters_are_those_of_so_many_kinds(self):
        for many in (1, 2, 3):
            for letter in range(5):
                with self.subTest(many=many, letter=letter):
                    self.assertSame(row_error(many, (0, letter)), None if letter < many else ("letter", 1))
