"""The interface: what stands in which file, with which arguments."""

import ast
import inspect
import pathlib
from importlib import import_module

from tests.helping import Case

PACKAGE = pathlib.Path(__file__).resolve().parent.parent / "endkeepers"

FUNCTIONS = {
    "tellers": {
        "teller_error": ["value"], "kinds": ["teller"], "row_error": ["many", "value"],
        "told": ["teller", "row"], "least": ["teller"], "parting_row": ["one", "other"],
    },
    "joining": {
        "mirrored": ["teller"], "paired": ["one", "other"], "joined": ["some"], "changed": ["teller", "table"],
    },
    "tellertexts": {"teller_text": ["teller"], "read_teller": ["value"]},
    "knowntellers": {"known_names": [], "known_teller": ["name", "many"]},
    "books": {"book_error": ["value"], "all_books": [], "is_bare": ["book"], "mirrored_book": ["book"]},
    "moving": {
        "deeds_of": ["book", "many"], "deed_error": ["book", "many", "row", "value"],
        "open_deeds": ["book", "many", "row"], "after": ["book", "many", "row", "deed"],
        "led": ["book", "many", "row", "deeds"],
    },
    "runtexts": {
        "run_text": ["row", "deeds"], "read_run": ["value"], "book_text": ["book"], "read_book": ["value"],
    },
    "classes": {
        "state_of": ["teller", "row"], "told_from": ["teller", "row"], "action_of": ["teller", "row"],
        "class_of": ["teller", "book", "row"], "letters_alike": ["teller"], "thinned": ["teller"],
        "agreement": ["teller", "number"], "turns": ["teller"],
    },
    "histories": {
        "history": ["teller", "book", "row"], "told_apart": ["teller", "book", "one", "other"],
    },
    "partings": {
        "parting": ["teller", "book", "one", "other"],
        "parting_error": ["teller", "book", "one", "other", "value"],
    },
    "counting": {
        "ways": ["teller", "book"], "lot_of": ["teller", "book", "row"],
        "go_alike": ["teller", "book", "one", "other"], "least_like": ["teller", "book", "row"],
    },
    "amounts": {
        "need": ["teller", "book", "number"], "needs": ["teller", "book", "number"],
        "bits": ["teller", "book", "number"],
    },
    "rules": {
        "rule": ["teller", "book"], "rule_error": ["teller", "book", "value"],
        "same_need": ["one", "book", "other", "another"],
    },
    "grades": {
        "grade": ["teller", "book"], "most": ["teller", "book"], "books_within": ["teller", "number"],
    },
    "forkpapers": {
        "fork": ["teller", "book"], "fork_error": ["teller", "book", "value"], "fork_least": ["paper", "number"],
    },
    "ringpapers": {
        "rings": ["teller", "book"], "rings_error": ["teller", "book", "value"], "rings_least": ["paper", "number"],
    },
    "windows": {
        "window_ways": ["teller"], "window_need": ["teller", "number"],
        "window_items": ["teller", "rest", "row"], "window_place": ["teller", "rest", "row"],
    },
    "windowgrades": {"window_grades": ["teller"], "window_alike": ["teller", "rest", "one", "other"]},
    "windowpapers": {
        "window_fork": ["teller", "rest"], "window_fork_error": ["teller", "rest", "value"],
        "window_rings": ["teller", "rest"], "window_rings_error": ["teller", "rest", "value"],
    },
    "tables": {
        "table_error": ["book", "many", "value"], "made": ["teller", "book", "size"], "counts": ["table"],
    },
    "judging": {
        "answers": ["book", "many", "table", "row", "deeds"], "broken": ["teller", "book", "table"],
        "small": ["book", "many", "table"],
    },
    "packs": {
        "pack": ["teller", "book", "row"], "width": ["teller", "book"], "pack_error": ["teller", "book", "value"],
        "length_of": ["some"], "pack_tells": ["teller", "book", "some"],
    },
    "packmoves": {"pack_after": ["teller", "book", "some", "deed"]},
    "packplaces": {
        "pack_place": ["teller", "book", "some"], "pack_at": ["teller", "book", "length", "number"],
    },
    "benchlogs": {
        "log_text": ["log"], "read_log": ["value"], "bench_behind": ["book", "many", "value"],
    },
}
CLASSES = {
    "errors": [
        "KeeperError", "Unfit", "BadText", "BadLog", "BadRun", "Refused", "TooMany",
        "NothingToUndo", "NothingToRedo", "TooManyEdits",
    ],
    "benches": ["Bench"], "shells": ["Shell"],
}
# The methods that are listed for the classes, each defined in its class itself, with their arguments.
METHODS = {
    ("benches", "Bench"): {
        "__init__": ["book", "many"], "__eq__": ["other"], "add": ["name", "value"], "drop": ["name"], "load": ["value"],
        "do": ["value"], "undo": [], "redo": [], "twin": [], "opened": [], "tells": [], "needs_now": [],
        "joint_need": [], "can_part": ["name", "value"], "least_now": ["name"],
    },
    ("shells", "Shell"): {"__init__": [], "say": ["line"]},
}
ATTRIBUTES = ("book", "many", "named", "begun", "deeds", "row", "version", "undone")


def defined_in(module, kind):
    """The names that the file of a module defines itself."""
    tree = ast.parse((PACKAGE / (module + ".py")).read_text())
    return [node.name for node in tree.body if isinstance(node, kind)]


class TestInterface(Case):
    def test_functions_stand_in_their_files(self):
        for module, functions in FUNCTIONS.items():
            defined = defined_in(module, ast.FunctionDef)
            for name in functions:
                with self.subTest(module=module, name=name):
                    self.assertIn(name, defined)

    def test_arguments(self):
        for module, functions in FUNCTIONS.items():
            for name, arguments in functions.items():
                with self.subTest(module=module, name=name):
                    found = inspect.signature(getattr(import_module("endkeepers." + module), name)).parameters
                    self.assertEqual(list(found), arguments)
                    for parameter in found.values():
                        self.assertEqual(parameter.kind, inspect.Parameter.POSITIONAL_OR_KEYWORD)
                        self.assertIs(parameter.default, inspect.Parameter.empty)

    def test_all_modules_are_known_here(self):
        found = {path.stem for path in PACKAGE.glob("*.py")} - {"__init__", "bounds"}
        # These have what several modules need, and the lines of shells.
        self.assertEqual(found - set(FUNCTIONS) - set(CLASSES), {"common", "hands", "lines"})

    def test_methods_stand_in_their_classes(self):
        for (module, name), methods in METHODS.items():
            tree = ast.parse((PACKAGE / (module + ".py")).read_text())
            body = next(node for node in tree.body if isinstance(node, ast.ClassDef) and node.name == name).body
            defined = {node.name: node for node in body if isinstance(node, ast.FunctionDef)}
            kind = getattr(import_module("endkeepers." + module), name)
            for method, arguments in methods.items():
                with self.subTest(name=name, method=method):
                    self.assertIn(method, defined)
                    found = inspect.signature(getattr(kind, method)).parameters
                    self.assertEqual(list(found), ["self"] + arguments)
                    for parameter in found.values():
                        self.assertEqual(parameter.kind, inspect.Parameter.POSITIONAL_OR_KEYWORD)
                        self.assertIs(parameter.default, inspect.Parameter.empty)

    def test_attributes_are_set_when_a_bench_is_made(self):
        bench = import_module("endkeepers.benches").Bench(("slide",), 2)
        for name in ATTRIBUTES:
            self.assertIn(name, vars(bench))

    def test_classes_stand_in_their_files(self):
        for module, classes in CLASSES.items():
            defined = defined_in(module, ast.ClassDef)
            for name in classes:
                with self.subTest(module=module, name=name):
                    self.assertIn(name, defined)
