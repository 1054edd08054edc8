"""[A9]: tellers that are known by a name."""

from endkeepers.errors import Unfit
from endkeepers.joining import mirrored
from endkeepers.knowntellers import known_names, known_teller
from endkeepers.tellers import kinds, least, teller_error, told

from tests.helping import BEGINS, ENDS, FOLLOWING, HOLDING, Case, rows_in_order, slow_least

NAMES = ("begins", "count", "ends", "holds", "length", "next", "parity", "sorted")
# What the sentences of the table say, of the row written as a string.
SENTENCES = {
    "begins": lambda text: int(text[:1] == "0"),
    "count": lambda text: text.count("0") if text.count("0") <= 2 else 3,
    "ends": lambda text: int(text[-1:] == "0"),
    "holds": lambda text: int("0" in text),
    "length": lambda text: len(text) % 3,
    "next": lambda text: int("01" in text),
    "parity": lambda text: int(text.count("0") % 2 == 1),
    "sorted": lambda text: int(not any(pair in text for pair in ("10", "20", "21"))),
}
NO_NAMES = (
    "", " ", "Next", "NEXT", "nexts", "nex", " next", "next ", "next\n", "next 2", "begins, ends", "known", "none",
    None, True, False, 0, 1, 2, -1, 10 ** 400, (), ("next",), ["next"], {"next": 2}, {}, [], (("next",), 2), FOLLOWING,
)
NO_NUMBERS = (
    True, False, 0, 4, -1, 5, 24, 10 ** 400, -10 ** 400, None, "", "1", "2", "next", (), (2,), [2], [], {}, {2: 2},
    ((2,),), FOLLOWING,
)


class TestKnownNames(Case):
    def test_example(self):
        self.assertSame(known_names(), NAMES)

    def test_they_are_ascending_and_each_is_known(self):
        self.assertSame(known_names(), tuple(sorted(set(known_names()))))
        for name in known_names():
            for many in (1, 2, 3):
                self.assertIsNone(teller_error(known_teller(name, many)))


class TestKnownTeller(Case):
    def test_example(self):
        self.assertSame(known_teller("next", 2), FOLLOWING)
        self.assertSame(known_teller("holds", 2), least(HOLDING))
        self.assertSame(known_teller("begins", 2), BEGINS)
        self.assertSame(
            known_teller("sorted", 3), (((0, 1, 2), (3, 1, 2), (3, 3, 2), (3, 3, 3)), (1, 1, 1, 0)),
        )
        self.assertSame(known_teller("count", 2), (((1, 0), (2, 1), (3, 2), (3, 3)), (0, 1, 2, 3)))
        self.assertSame(known_teller("length", 1), (((1,), (2,), (0,)), (0, 1, 2)))
        self.assertSame(known_teller("next", 1), (((0,),), (0,)))
        self.assertSame(known_teller("sorted", 1), (((0,),), (1,)))
        self.assertSame(known_teller("begins", 1), (((1,), (1,)), (0, 1)))

    def test_others(self):
        self.assertSame(known_teller("ends", 2), ENDS)
        self.assertSame(known_teller("ends", 1), (((1,), (1,)), (0, 1)))
        self.assertSame(known_teller("parity", 3), (((1, 0, 0), (0, 1, 1)), (0, 1)))
        self.assertSame(known_teller("sorted", 2), (((0, 1), (2, 1), (2, 2)), (1, 1, 0)))
        self.assertSame(known_teller("next", 3), (((1, 0, 0), (1, 2, 0), (2, 2, 2)), (0, 0, 1)))
        self.assertSame(known_teller("begins", 3), (((1, 2, 2), (1, 1, 1), (2, 2, 2)), (0, 1, 0)))

    def test_by_what_the_table_says(self):
        self.assertEqual(tuple(SENTENCES), NAMES)
        for name, sentence in SENTENCES.items():
            for many, longest in ((1, 12), (2, 9), (3, 7)):
                teller = known_teller(name, many)
                for row in rows_in_order(many, longest):
                    with self.subTest(name=name, row=row):
                        self.assertSame(told(teller, row), sentence("".join(map(str, row))))

    def test_the_empty_row(self):
        for many in (1, 2, 3):
            self.assertSame([told(known_teller(name, many), ()) for name in NAMES], [0, 0, 0, 0, 0, 0, 0, 1])

    def test_long_rows(self):
        for many in (1, 2, 3):
            self.assertSame(told(known_teller("length", many), (many - 1,) * 899), 2)
            self.assertSame(told(known_teller("count", many), (0,) * 900), 3)
            self.assertSame(told(known_teller("parity", many), (0,) * 899), 1)
        self.assertSame(told(known_teller("next", 3), (0, 2) * 449 + (0,)), 0)
        self.assertSame(told(known_teller("next", 3), (0, 2) * 449 + (0, 1)), 1)
        self.assertSame(told(known_teller("sorted", 3), (0,) * 300 + (1,) * 300 + (2,) * 300), 1)
        self.assertSame(told(known_teller("sorted", 3), (0,) * 300 + (2,) * 300 + (1,) * 300), 0)

    def test_they_are_least(self):
        for name in NAMES:
            for many in (1, 2, 3):
                with self.subTest(name=name, many=many):
                    teller = known_teller(name, many)
                    self.assertSame(kinds(teller), many)
                    self.assertSame(least(teller), teller)
                    self.assertSame(slow_least(teller), teller)

    def test_read_from_the_end(self):
        for many in (1, 2, 3):
            self.assertSame(mirrored(known_teller("begins", many)), known_teller("ends", many))
            for name in ("count", "holds", "length", "parity"):
                self.assertSame(mirrored(known_teller(name, many)), known_teller(name, many))

    def test_no_names(self):
        for name in NO_NAMES:
            for many in (1, 2, 3) + NO_NUMBERS:
                with self.subTest(name=name, many=many):
                    self.assertRaised(Unfit, {}, known_teller, name, many)

    def test_no_numbers_of_kinds(self):
        for name in NAMES:
            for many in NO_NUMBERS:
                with self.subTest(name=name, many=many):
                    self.assertRaised(Unfit, {}, known_teller, name, many)
                    self.assertRaised(Unfit, {}, known_teller, many, name)
