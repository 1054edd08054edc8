"""The interface: the errors, their bases and their fields."""

from endkeepers import errors

from tests.helping import Case

FIELDS = {
    "Unfit": None, "BadText": "line", "BadLog": "place", "BadRun": "place", "Refused": "word",
    "TooMany": "limit", "NothingToUndo": None, "NothingToRedo": None, "TooManyEdits": None,
}


class Odd:
    """A value that cannot be shown or compared."""

    def __repr__(self):
        raise RuntimeError("this cannot be shown")

    def __eq__(self, other):
        raise RuntimeError("this cannot be compared")


ODD_VALUES = (
    None, True, False, 0, 24, -1, 10 ** 400, 10 ** 5000, "", "letter", "x" * 20000, "two\nlines", [], [1, [2]],
    {}, {"a": {1: (None,)}}, (), (1,), ("letter", 3), ("a", ("b", ("c",))), Odd(),
)


class TestErrors(Case):
    def test_bases(self):
        self.assertEqual(errors.KeeperError.__bases__, (ValueError,))
        for name in FIELDS:
            with self.subTest(name=name):
                self.assertEqual(getattr(errors, name).__bases__, (errors.KeeperError,))

    def test_errors_without_a_field(self):
        for name in FIELDS:
            if FIELDS[name] is None:
                with self.subTest(name=name):
                    self.assertEqual(vars(getattr(errors, name)()), {})

    def test_fields_are_kept_as_they_were_passed(self):
        for name, field in FIELDS.items():
            if field is None:
                continue
            error_class = getattr(errors, name)
            for place, value in enumerate(ODD_VALUES):
                with self.subTest(name=name, place=place):
                    for error in (error_class(value), error_class(**{field: value})):
                        self.assertEqual(list(vars(error)), [field])
                        self.assertIs(getattr(error, field), value)
                        self.assertIsInstance(str(error), str)

    def test_arguments_are_neither_more_nor_fewer(self):
        for name, field in FIELDS.items():
            error_class = getattr(errors, name)
            with self.subTest(name=name):
                with self.assertRaises(TypeError):
                    error_class(1, 2)
                with self.assertRaises(TypeError):
                    if field is None:
                        error_class(1)
                    else:
                        error_class()

    def test_they_are_raised_and_caught(self):
        for name, field in FIELDS.items():
            error_class = getattr(errors, name)
            for wanted in (error_class, errors.KeeperError, ValueError):
                with self.subTest(name=name, wanted=wanted.__name__), self.assertRaises(wanted):
                    raise error_class(*([] if field is None else [7]))
