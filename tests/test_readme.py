"""The examples of the README."""

import doctest
import pathlib

from tests.helping import Case

README = pathlib.Path(__file__).resolve().parent.parent / "README.md"


class TestReadme(Case):
    def test_examples(self):
        failed, tried = doctest.testfile(str(README), module_relative=False)
        self.assertEqual(failed, 0)
        self.assertGreaterEqual(tried, 20)
