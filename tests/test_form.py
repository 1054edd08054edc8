"""The form of the package: the rules for its files, names and statements that a program can check.

The numbers are those of the rules of the language that the package is written in. This is
no full check of them: it finds what is easily written by mistake.
"""

import ast
import builtins
import pathlib
import re

from tests.helping import Case

ROOT = pathlib.Path(__file__).resolve().parent.parent
PACKAGE = ROOT / "endkeepers"
FILES = sorted(PACKAGE.glob("**/*.py"))

LIBRARY = {
    "heapq": {"heappush", "heappop", "heapify", "heapreplace", "heappushpop"},
    "math": {"gcd", "lcm", "isqrt", "comb", "perm", "factorial"},
    "itertools": {
        "product", "combinations", "permutations", "chain", "accumulate", "pairwise", "islice", "zip_longest",
    },
    "collections": {"defaultdict", "deque"},
}
BUILTINS = set(
    "len range enumerate zip min max sum abs sorted reversed int str bool bytes list tuple dict set frozenset "
    "isinstance ord repr any all divmod pow getattr hasattr setattr iter next map type super property staticmethod "
    "classmethod object Exception ValueError TypeError KeyError IndexError LookupError ZeroDivisionError "
    "ArithmeticError OverflowError RuntimeError NotImplementedError AttributeError StopIteration "
    "NotImplemented".split()
)
METHODS = set(
    "append clear copy count endswith extend find get index insert isalnum isalpha isdigit islower isspace isupper "
    "items join keys ljust lower lstrip partition pop remove replace reverse rfind rjust rpartition rsplit rstrip "
    "setdefault split splitlines startswith strip update upper values zfill bit_length title capitalize swapcase "
    "casefold center expandtabs removeprefix removesuffix rindex isascii isdecimal isnumeric istitle isidentifier "
    "isprintable translate sort add discard appendleft popleft extendleft rotate format".split()
)
BARRED = set("mro elements open input law version_info with_traceback add_note register".split())
WORDS = re.compile(
    r"\b(typing|enum|Enum|IntEnum|StrEnum|Flag|IntFlag|Generic|Protocol|ABC|ABCMeta|namedtuple|NamedTuple|TypedDict"
    r"|TYPE_CHECKING|abstractmethod)\b|dataclass|overload|contextmanager"
)
FORBIDDEN = (
    ast.AsyncFunctionDef, ast.AsyncFor, ast.AsyncWith, ast.Await, ast.Div, ast.MatMult, ast.TryStar,
)


def nodes(kinds):
    """All nodes of such kinds in the package, each with its file."""
    for file in FILES:
        for node in ast.walk(ast.parse(file.read_text())):
            if isinstance(node, kinds):
                yield file, node


def own_names():
    """The names of all functions, methods and classes of the package, and of its attributes."""
    found = {node.name for _, node in nodes((ast.FunctionDef, ast.ClassDef))}
    return found | {node.attr for _, node in nodes(ast.Attribute) if isinstance(node.ctx, ast.Store)}


def bound_names():
    """All names that the package binds, each with its file."""
    for file, node in nodes((ast.FunctionDef, ast.ClassDef, ast.arg, ast.alias, ast.Name, ast.ExceptHandler)):
        if isinstance(node, (ast.FunctionDef, ast.ClassDef, ast.ExceptHandler)):
            yield file, node.name
        elif isinstance(node, ast.arg):
            yield file, node.arg
        elif isinstance(node, ast.alias):
            yield file, node.asname or node.name
        elif isinstance(node.ctx, ast.Store):
            yield file, node.id


def called(node):
    """The name of what a node calls, with a dot ahead for a method; None if it calls nothing."""
    if not isinstance(node, ast.Call):
        return None
    if isinstance(node.func, ast.Attribute):
        return "." + node.func.attr
    return node.func.id if isinstance(node.func, ast.Name) else None


class TestForm(Case):
    def test_files(self):
        self.assertTrue(FILES)
        for path in PACKAGE.rglob("*"):
            if "__pycache__" not in path.parts:
                with self.subTest(path=path):
                    self.assertTrue(path.is_file())
                    self.assertRegex(path.name, r"^([a-z][a-z0-9_]*|__init__|__main__)\.py$")

    def test_characters_and_sizes(self):
        for file in FILES:
            text = file.read_text()
            with self.subTest(file=file.name):
                self.assertIsNone(re.search(r"[^\n -~]", text))
                self.assertLessEqual(text.count("\n"), 399)
                self.assertLessEqual(max(map(len, text.split("\n"))), 120)

    def test_functions_have_at_most_40_lines(self):
        for file, node in nodes(ast.FunctionDef):
            with self.subTest(file=file.name, name=node.name):
                self.assertLessEqual(node.end_lineno - node.lineno + 1, 40)
                if node.col_offset == 0:
                    self.assertIsNotNone(ast.get_docstring(node))

    def test_module_level(self):
        plain = (ast.ImportFrom, ast.FunctionDef, ast.ClassDef)
        for file in FILES:
            tree = ast.parse(file.read_text())
            self.assertIsNotNone(ast.get_docstring(tree), file.name)
            for node in tree.body[1:]:
                with self.subTest(file=file.name, line=node.lineno):
                    if not isinstance(node, plain):
                        self.assertIsInstance(node, ast.Assign)
                        self.assertEqual(len(node.targets), 1)
                        self.assertIsInstance(node.targets[0], ast.Name)

    def test_imports(self):
        self.assertEqual([file.name for file, _ in nodes(ast.Import) if file.name != "__main__.py"], [])
        for file, node in nodes(ast.ImportFrom):
            with self.subTest(file=file.name, line=node.lineno):
                self.assertEqual(node.level, 0)
                names = {alias.name for alias in node.names}
                if node.module in LIBRARY:
                    self.assertLessEqual(names, LIBRARY[node.module])
                else:
                    self.assertRegex(node.module, r"^endkeepers\.[a-z]+$")
                    tree = ast.parse((ROOT / (node.module.replace(".", "/") + ".py")).read_text())
                    defined = {part.name for part in tree.body if isinstance(part, (ast.FunctionDef, ast.ClassDef))}
                    for part in tree.body:
                        if isinstance(part, ast.Assign):
                            defined.add(part.targets[0].id)
                    self.assertLessEqual(names, defined)

    def test_imports_are_used_and_go_round_nowhere(self):
        imports = {}
        for file, node in nodes(ast.ImportFrom):
            imports.setdefault(file.stem, set()).add(node.module.split(".")[-1])
            used = {name.id for name in ast.walk(ast.parse(file.read_text())) if isinstance(name, ast.Name)}
            with self.subTest(file=file.name, line=node.lineno):
                self.assertLessEqual({alias.name for alias in node.names}, used)
        while imports:
            free = [name for name in imports if not imports[name] & set(imports)]
            self.assertTrue(free, imports)
            for name in free:
                del imports[name]

    def test_names(self):
        for file, name in bound_names():
            if name is not None:
                with self.subTest(file=file.name, name=name):
                    self.assertNotIn(name, BARRED)
                    if not re.fullmatch(r"__[a-z]+__", name):
                        self.assertFalse(hasattr(builtins, name))
                        self.assertRegex(name, r"^(_|_?[A-Za-z][A-Za-z0-9_]*)$")

    def test_imported_names_and_classes_are_bound_once(self):
        for file in FILES:
            once = [node.name for found, node in nodes(ast.ClassDef) if found == file]
            for found, node in nodes(ast.ImportFrom):
                if found == file:
                    once += [alias.name for alias in node.names]
            bound = [name for found, name in bound_names() if found == file]
            for name in once:
                with self.subTest(file=file.name, name=name):
                    self.assertEqual(bound.count(name), 1)

    def test_builtins(self):
        for file, node in nodes(ast.Name):
            if hasattr(builtins, node.id):
                with self.subTest(file=file.name, line=node.lineno):
                    self.assertIn(node.id, BUILTINS)

    def test_methods(self):
        own = own_names()
        for file, node in nodes(ast.Attribute):
            with self.subTest(file=file.name, line=node.lineno):
                self.assertTrue(node.attr in METHODS or node.attr in own or node.attr in ("__init__", "__name__"), node.attr)

    def test_statements(self):
        self.assertEqual([(file.name, node.lineno) for file, node in nodes(FORBIDDEN)], [])
        for file, node in nodes((ast.FunctionDef, ast.ClassDef)):
            self.assertEqual(node.decorator_list, [], file.name)
        for file, node in nodes(ast.Raise):
            with self.subTest(file=file.name, line=node.lineno):
                self.assertTrue(node.exc is None or isinstance(node.exc, ast.Call))
        for file, node in nodes(ast.Compare):
            if any(isinstance(sign, (ast.Is, ast.IsNot)) for sign in node.ops):
                with self.subTest(file=file.name, line=node.lineno):
                    self.assertIn(repr(getattr(node.comparators[0], "value", 0)), ("None", "True", "False"))

    def test_numbers_and_strings(self):
        for file, node in nodes(ast.Constant):
            with self.subTest(file=file.name, line=node.lineno):
                self.assertNotIsInstance(node.value, (float, complex))
        for file in FILES:
            with self.subTest(file=file.name):
                self.assertIsNone(WORDS.search(file.read_text()))

    def test_sets_are_used_on_the_spot(self):
        for file, node in nodes(ast.AST):
            for child in ast.iter_child_nodes(node):
                made = isinstance(child, (ast.Set, ast.SetComp)) or called(child) in ("set", "frozenset")
                if made:
                    with self.subTest(file=file.name, line=child.lineno):
                        self.assertTrue(called(node) in ("sorted", "len") or isinstance(node, ast.Compare))

    def test_what_is_iterated_is_iterated_on_the_spot(self):
        takers = ("list", "tuple", "dict", "sorted", "sum", "any", "all", "enumerate", "zip", "max", "min")
        for file, node in nodes(ast.AST):
            for child in ast.iter_child_nodes(node):
                if called(child) in ("zip", "enumerate", "reversed", "range", ".items", ".keys", ".values"):
                    with self.subTest(file=file.name, line=child.lineno):
                        by_loop = isinstance(node, (ast.For, ast.comprehension)) and node.iter is child
                        self.assertTrue(by_loop or (called(node) in takers and node.args[0] is child))

    def test_loops_do_not_change_what_they_go_over(self):
        changing = {"append", "extend", "insert", "pop", "remove", "reverse", "clear", "update", "setdefault", "sort"}
        for file, loop in nodes(ast.For):
            over = {node.id for node in ast.walk(loop.iter) if isinstance(node, ast.Name)}
            for row in loop.body:
                for node in ast.walk(row):
                    changed = None
                    if isinstance(node, ast.Attribute) and node.attr in changing:
                        changed = node.value
                    elif isinstance(node, ast.Subscript) and isinstance(node.ctx, ast.Store):
                        changed = node.value
                    while isinstance(changed, (ast.Subscript, ast.Attribute)):
                        changed = changed.value
                    if isinstance(changed, ast.Name):
                        with self.subTest(file=file.name, line=node.lineno):
                            self.assertNotIn(changed.id, over)

    def test_no_exponents_and_no_generators(self):
        self.assertEqual([(file.name, node.lineno) for file, node in nodes((ast.Pow, ast.GeneratorExp, ast.Yield))], [])

    def test_classes(self):
        allowed = {"__init__", "__eq__", "__repr__", "__str__", "__len__"}
        methods, attributes = set(), set()
        for file, node in nodes(ast.ClassDef):
            for part in node.body:
                with self.subTest(file=file.name, line=part.lineno):
                    self.assertTrue(isinstance(part, ast.FunctionDef) or part is node.body[0])
                    if isinstance(part, ast.FunctionDef):
                        self.assertTrue(not part.name.startswith("__") or part.name in allowed)
                        methods.add(part.name)
                        if part.name == "__eq__":
                            self.assertEqual(len(part.body), 1)
                            self.assertRegex(ast.unparse(part), r"return isinstance\(other, [A-Z][A-Za-z]*\) and ")
        for file, node in nodes(ast.Attribute):
            if isinstance(node.ctx, ast.Store):
                attributes.add(node.attr)
                with self.subTest(file=file.name, line=node.lineno):
                    self.assertIsInstance(node.value, ast.Name)
        self.assertEqual(methods & attributes, set())
        builtin = {name for kind in (str, list, dict, set, bytes, int) for name in dir(kind)} - {"__init__", "__eq__"}
        self.assertEqual((methods | attributes) & builtin, {"add"})

    def test_nothing_is_sorted_in_place_and_no_set_is_stored(self):
        for file, node in nodes(ast.Attribute):
            with self.subTest(file=file.name, line=node.lineno):
                self.assertNotIn(node.attr, ("sort", "discard"))
                if node.attr == "add":
                    self.assertEqual(ast.unparse(node.value), "bench")

    def test_errors_that_are_caught(self):
        own = {node.name for file, node in nodes(ast.ClassDef) if file.name == "errors.py"}
        for file, node in nodes(ast.ExceptHandler):
            with self.subTest(file=file.name, line=node.lineno):
                self.assertIn(ast.unparse(node.type), own)

    def test_signs_in_strings(self):
        for file in FILES:
            with self.subTest(file=file.name):
                self.assertEqual(set(re.findall(r"\\(.)", file.read_text())) - set("nt\\'\""), set())
        for file, node in nodes(ast.Constant):
            if isinstance(node.value, str):
                with self.subTest(file=file.name, line=node.lineno):
                    self.assertNotIn("%", node.value)

    def test_keywords_of_builtins(self):
        known = {("sorted", "key"), ("sorted", "reverse"), ("min", "key"), ("max", "key"), ("min", "default"),
                 ("max", "default"), ("sum", "start"), ("enumerate", "start")}
        for file, node in nodes(ast.Call):
            name = called(node)
            if name in BUILTINS or (name or "").startswith("."):
                with self.subTest(file=file.name, line=node.lineno):
                    self.assertLessEqual({(name, keyword.arg) for keyword in node.keywords}, known)

    def test_annotations_and_defaults_are_left_out(self):
        for file, node in nodes((ast.FunctionDef, ast.Lambda)):
            with self.subTest(file=file.name, line=node.lineno):
                self.assertEqual(node.args.defaults + node.args.kw_defaults, [])
                self.assertIsNone(node.args.vararg or node.args.kwarg)
                self.assertIsNone(getattr(node, "returns", None))
