"""The interface: the bounds and their values."""

from endkeepers import bounds

from tests.helping import Case

BOUNDS = {
    "MAX_KINDS": 3, "MAX_STATES": 24, "MAX_TOLD": 99, "MAX_ROW": 40, "MAX_DEEDS": 200,
    "MAX_COUNTING": 300, "MAX_NEED": 300, "MAX_RULE": 24, "MAX_PAPER": 900, "MAX_TABLE": 4,
    "MAX_LEVEL": 100, "MAX_EDITS": 60, "MAX_NAME": 12,
}


class TestBounds(Case):
    def test_each_bound(self):
        for name, value in BOUNDS.items():
            with self.subTest(name=name):
                self.assertSame(getattr(bounds, name), value)

    def test_there_are_no_others(self):
        self.assertEqual({name for name in vars(bounds) if name.startswith("MAX")}, set(BOUNDS))
