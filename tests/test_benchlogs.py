"""[J5]: logs as texts, and benches behind them."""

import copy
import random

from endkeepers.benches import Bench
from endkeepers.benchlogs import bench_behind, log_text, read_log
from endkeepers.books import all_books
from endkeepers.errors import BadLog, BadText, KeeperError, Unfit
from endkeepers.knowntellers import known_teller
from endkeepers.moving import deeds_of
from endkeepers.runtexts import run_text
from endkeepers.tellertexts import read_teller, teller_text

from tests.helping import (
    ALL_ENDS, BOOKS, FOLLOWING, HOLDING, NO_STRINGS, NO_TUPLES, QUEUE, UNDOING, WINDOW, WORDS, Case, drawn_row,
    drawn_teller, ring,
)
from tests.test_benches import NO_BOOKS, NO_NAMES, NO_TELLERS, drawn_call, read

SOME = (
    ("load", (0, 1)), ("add", "mine", known_teller("ends", 2)), ("do", ("put right", 1)), ("undo",), ("redo",),
    ("drop", "mine"),
)
DEEDS = deeds_of(WORDS, 3)


def drawn_log_call(draw):
    """A call that may stand in a log, whether or not some bench lets it."""
    word = draw.choice(("add", "drop", "load", "do", "do", "undo", "redo"))
    name = "".join(draw.choice("abcz") for _ in range(draw.choice((1, 2, 12))))
    if word == "add":
        return word, name, drawn_teller(draw, draw.randint(1, 24), draw.randint(1, 3), 99)
    if word == "drop":
        return word, name
    if word == "load":
        return word, drawn_row(draw, 3, draw.choice((0, 1, 5, 40)))
    if word == "do":
        return word, draw.choice(DEEDS)
    return (word,)


def slow_line(call):
    """The line of a call, in the words of the document."""
    word, *more = call
    if word == "add":
        return "add " + more[0] + " " + teller_text(more[1]).replace("\n", "; ")
    if word == "load":
        return "load" + "".join(" " + str(letter) for letter in more[0])
    if word == "do":
        return run_text((), (more[0],)).split("\n")[1]
    return " ".join(call)


class TestLogText(Case):
    def test_examples(self):
        self.assertSame(
            (log_text(SOME), log_text(())),
            ("load 0 1\nadd mine 1 0 tells 0; 1 0 tells 1\nput right 1\nundo\nredo\ndrop mine\n", ""),
        )
        self.assertSame(read_log(log_text(SOME)), SOME)
        self.assertSame(read_log("load\ntake left"), (("load", ()), ("do", ("take left",))))

    def test_each_kind_of_call(self):
        for deed in DEEDS:
            self.assertSame(log_text((("do", deed),)), " ".join(map(str, deed)) + "\n")
        self.assertSame(log_text((("load", ()),)), "load\n")
        self.assertSame(log_text((("load", (2,) * 40),)), "load" + " 2" * 40 + "\n")
        self.assertSame(log_text((("add", "a", (((0,),), (7,))),)), "add a 0 tells 7\n")
        self.assertSame(log_text((("add", "abcdefghijkl", HOLDING),)),
                        "add abcdefghijkl 2 0 tells 0; 1 1 tells 5; 2 2 tells 1; 0 3 tells 12\n")

    def test_there_and_back(self):
        draw = random.Random(840)
        for length in (0, 1, 2, 5, 60, 239, 240):
            for _ in range(3):
                log = tuple(drawn_log_call(draw) for _ in range(length))
                text = log_text(log)
                self.assertSame(text, "".join(slow_line(call) + "\n" for call in log))
                self.assertSame(read_log(text), log)
                # The last line feed may be left out.
                self.assertSame(read_log(text[:-1]), log)

    def test_unlike_logs_have_unlike_texts(self):
        draw = random.Random(841)
        texts = {}
        for _ in range(600):
            log = tuple(drawn_log_call(draw) for _ in range(draw.randint(0, 2)))
            self.assertSame(texts.setdefault(log_text(log), log), log)

    def test_240_calls_and_241(self):
        for line in ("undo", "load 0", "take left", "drop a"):
            self.assertEqual(len(read_log((line + "\n") * 240)), 240)
            self.assertEqual(len(read_log("\n".join([line] * 240))), 240)
            for text in ((line + "\n") * 241, "\n".join([line] * 241), (line + "\n") * 240 + "\n", (line + "\n") * 900,
                         (line + "\n") * 240 + "what\n"):
                self.assertRaised(BadText, {"line": 240}, read_log, text)
            self.assertRaised(BadText, {"line": 239}, read_log, (line + "\n") * 239 + "what\n" + line)

    def test_tellers_of_24_states(self):
        teller = ring(24, 5, 3)
        text = log_text((("add", "ring", teller),))
        self.assertSame(read_log(text), (("add", "ring", teller),))
        self.assertRaised(BadText, {"line": 0}, read_log, text[:-1] + "; 0 0 0 tells 0\n")


class TestReadLog(Case):
    def test_examples(self):
        self.assertRaised(BadText, {"line": 0}, read_log, "load 0 3\n")
        self.assertRaised(BadText, {"line": 1}, read_log, "undo\n\n")
        self.assertRaised(BadText, {"line": 1}, read_log, "undo\nadd mine 1 0 tells 0;1 0 tells 1\n")
        self.assertRaised(BadText, {"line": 240}, read_log, "undo\n" * 241)

    def test_values_that_are_no_strings(self):
        for value in NO_STRINGS + (SOME, log_text, [log_text(SOME)]):
            self.assertRaised(BadText, {"line": 0}, read_log, value)

    def test_empty_lines(self):
        self.assertSame(read_log(""), ())
        for text, line in (("\n", 0), ("\n\n", 0), ("\nundo", 0), ("undo\n\nundo", 1), ("undo\n\n\n", 1), (" ", 0),
                           ("undo\n ", 1), ("undo\n \n", 1)):
            self.assertRaised(BadText, {"line": line}, read_log, text)

    def test_lines_that_are_none(self):
        wrong = (
            "what", "Undo", "undo ", " undo", "undo 0", "redo redo", "undoredo", "load 3", "load  0", "load 0 ", "load 00",
            "load0", "load 0,1", "Load 0", "load -1", "load" + " 0" * 41, "loads", "drop", "drop ", "drop A", "drop a b",
            "drop  a", "drop a ", "drop abcdefghijklm", "drop 1", "add", "add a", "add a ", "add  0 tells 0",
            "add a 0 tells", "add a tells 0", "add A 0 tells 0", "add abcdefghijklm 0 tells 0", "add a 1 tells 0",
            "add a 0 tells 100", "add a 0 tells 00", "add a 0 tells 0;", "add a 0 tells 0; ", "add a 0 tells 0;0 tells 0",
            "add a 0 tells 0 ; 0 tells 0", "add a 0 tells 0;  0 tells 0", "add a  0 tells 0", "add a 0 tells 0 ",
            "add a 0 0 0 0 tells 0", "add a 0 tells 0; 0 0 tells 0", "do", "do undo", "do take left", "take", "take left 0",
            "take  left", "put left", "put left 3", "put left 00", "put left  0", "put left 0 ", "put 0", "slide",
            "slide 3", "slide left 0", "put up 0", "row", "row 0 1", "addmine 0 tells 0", "add\tmine 0 tells 0",
        )
        for line in wrong:
            with self.subTest(line=line):
                self.assertRaised(BadText, {"line": 0}, read_log, line)
                self.assertRaised(BadText, {"line": 2}, read_log, "undo\nload 0\n" + line + "\nundo\n")
                self.assertRaised(BadText, {"line": 1}, read_log, "undo\n" + line + "\n" + line)

    def test_spoilt_texts(self):
        draw = random.Random(842)
        told = {}
        for _ in range(400):
            log = tuple(drawn_log_call(draw) for _ in range(draw.randint(1, 6)))
            text = log_text(log)
            place = draw.randrange(len(text))
            sign = draw.choice(" 0123ab;\ntlA")
            kind = draw.choice(("more", "less", "other", "line"))
            if kind == "more":
                text = text[:place] + sign + text[place:]
            elif kind == "less":
                text = text[:place] + text[place + 1:]
            elif kind == "other":
                text = text[:place] + sign + text[place + 1:]
            else:
                lines = text.split("\n")
                del lines[draw.randrange(len(lines))]
                text = "\n".join(lines)
            # It is read only if it is, but for its last line feed, the text of what is read.
            lines = text.split("\n")
            lines = lines[:-1] if lines[-1] == "" else lines
            wrong = next((place for place, line in enumerate(lines) if self.slow_call(line) is None), None)
            told[(kind, wrong is None)] = True
            if wrong is None:
                self.assertSame(read_log(text), tuple(self.slow_call(line) for line in lines))
            else:
                self.assertRaised(BadText, {"line": wrong}, read_log, text)
        self.assertGreaterEqual(len(told), 7)

    def slow_call(self, line):
        """The call of which a line is the text: it is tried whether the text of what it may tell is this line."""
        words = line.split(" ")
        tried = [("undo",), ("redo",)] + [("do", deed) for deed in DEEDS] + [("drop", word) for word in words]
        tried.append(("load", tuple(int(word) for word in words[1:] if word in ("0", "1", "2"))))
        if len(words) > 2:
            try:
                tried.append(("add", words[1], read_teller("\n".join(" ".join(words[2:]).split("; ")))))
            except BadText:
                pass
        letters = set("abcdefghijklmnopqrstuvwxyz")
        for call in tried:
            named = call[0] not in ("add", "drop") or (0 < len(call[1]) < 13 and not set(call[1]) - letters)
            if named and (call[0] != "load" or len(call[1]) < 41) and slow_line(call) == line:
                return call
        return None

    def test_long_texts(self):
        for text in ("a" * 20000, "load" + " 0" * 9000, "undo " * 4000, "\n" * 20000, "add a " + "0 tells 0; " * 1800,
                     " " * 20000, "add " + "a" * 19000):
            with self.assertQuick(1):
                self.assertRaised(BadText, {"line": 0}, read_log, text)


class TestBenchBehind(Case):
    def test_examples(self):
        c = bench_behind(QUEUE, 2, SOME)
        self.assertSame((c.row, c.named, c.deeds, c.version), ((0, 1, 1), (), (("put right", 1),), 4))
        value = (("load", (0,)), ("do", ("take left",)), ("do", ("take left",)))
        self.assertRaised(BadLog, {"place": 2}, bench_behind, QUEUE, 2, value)
        self.assertRaised(BadLog, {"place": 1}, bench_behind, WINDOW, 2, (("load", ()), ("undo", 1)))
        self.assertRaised(BadLog, {"place": 0}, bench_behind, WINDOW, 2, [])
        self.assertRaised(Unfit, {}, bench_behind, WINDOW, 0, [])

    def test_what_bench_raises_is_ahead_of_all(self):
        for value in NO_TUPLES + (SOME, (), (None,), (("undo",),)):
            for book in NO_BOOKS:
                self.assertRaised(Unfit, {}, bench_behind, book, 2, value)
            for many in (0, 4, True, None, "2"):
                self.assertRaised(Unfit, {}, bench_behind, QUEUE, many, value)

    def test_values_that_are_no_tuples(self):
        for value in NO_TUPLES + (list(SOME), log_text(SOME), {0: SOME}):
            self.assertRaised(BadLog, {"place": 0}, bench_behind, QUEUE, 2, value)

    def test_beside_calls_by_hand(self):
        draw = random.Random(843)
        longest = 0
        for _ in range(150):
            book, many = draw.choice(BOOKS), draw.randint(1, 3)
            bench, calls = Bench(book, many), []
            for _ in range(draw.choice((0, 3, 30, 200))):
                call = drawn_call(draw, bench)
                try:
                    getattr(bench, call[0])(*call[1:])
                    calls.append(call)
                except KeeperError:
                    # With this one at the end it cannot be gone through.
                    value = tuple(calls) + (call,) + tuple(calls[:2])
                    self.assertRaised(BadLog, {"place": len(calls)}, bench_behind, book, many, value)
            longest = max(longest, len(calls))
            found = bench_behind(book, many, tuple(calls))
            self.assertIs(type(found), Bench)
            self.assertSame(read(found), read(bench))
            self.assertTrue(found == bench)
        self.assertGreater(longest, 100)

    def test_calls_that_are_none(self):
        good = (("load", (0, 1)), ("add", "a", FOLLOWING))
        wrong = NO_TUPLES + (
            (), ("undo", 1), ("undo", None), ("redo", ()), ("load",), ("load", (), ()), ("do",), ("do", "put right", 1),
            ("drop",), ("drop", "a", "a"), ("add", "b"), ("add", FOLLOWING), ("add", "b", FOLLOWING, 1), ("Undo",),
            ("jump",), (None,), (["undo"],), (("undo",),), ({"undo": 1},), (0,), (True,), ("put right", 1), ("take left",),
            ("twin",), ("opened",), ("", ), ("undo ",), ["undo"], "undo",
        )
        for value in wrong:
            with self.subTest(value=value):
                self.assertRaised(BadLog, {"place": 0}, bench_behind, QUEUE, 2, (value,))
                self.assertRaised(BadLog, {"place": 2}, bench_behind, QUEUE, 2, good + (value,) + good)
                self.assertRaised(BadLog, {"place": 1}, bench_behind, QUEUE, 2, good[:1] + (value, value))

    def test_calls_by_which_an_error_is_raised(self):
        good = (("load", (0, 1)), ("add", "a", FOLLOWING))
        wrong = [("drop", "b"), ("redo",), ("add", "a", known_teller("next", 3)), ("load", (2,)), ("load", (0,) * 41),
                 ("load", [0]), ("do", ("take right",)), ("do", ("jump",)), ("do", None), ("do", ("put right", 2))]
        wrong += [("drop", name) for name in NO_NAMES] + [("add", name, FOLLOWING) for name in NO_NAMES]
        wrong += [("add", "a", value) for value in NO_TELLERS]
        for value in wrong:
            with self.subTest(value=value):
                self.assertRaised(BadLog, {"place": 2}, bench_behind, QUEUE, 2, good + (value,) + good)
        self.assertRaised(BadLog, {"place": 0}, bench_behind, QUEUE, 2, (("undo",),))
        self.assertRaised(BadLog, {"place": 3}, bench_behind, QUEUE, 2, good[:1] + (("undo",), ("redo",), ("redo",)))

    def test_60_edits_and_one_more(self):
        calls = (("do", ("put right", 0)),) * 60
        self.assertEqual(bench_behind(UNDOING, 1, calls).version, 60)
        for more in (("do", ("put right", 0)), ("load", ()), ("add", "a", (((0,),), (0,)))):
            self.assertRaised(BadLog, {"place": 60}, bench_behind, UNDOING, 1, calls + (more,))
        # Undone edits stand no more.
        found = bench_behind(UNDOING, 1, calls + (("undo",), ("load", (0,)), ("undo",), ("redo",)))
        self.assertEqual((found.version, found.undone, found.row), (60, 0, (0,)))
        longer = calls + (("undo",), ("redo",)) * 400
        self.assertEqual(bench_behind(UNDOING, 1, longer).version, 60)
        self.assertRaised(BadLog, {"place": 860}, bench_behind, UNDOING, 1, longer + (("redo",),))

    def test_new_benches(self):
        one, other = bench_behind(QUEUE, 2, SOME), bench_behind(QUEUE, 2, SOME)
        one.load((1,))
        self.assertSame((one.row, other.row), ((1,), (0, 1, 1)))
        self.assertSame(read(bench_behind(QUEUE, 2, ())), read(Bench(QUEUE, 2)))

    def test_values_that_were_returned(self):
        bench = bench_behind(QUEUE, 2, SOME)
        self.assertRaised(Unfit, {}, bench_behind, bench, 2, SOME)
        self.assertRaised(BadLog, {"place": 0}, bench_behind, QUEUE, 2, bench)
        self.assertRaised(BadLog, {"place": 1}, bench_behind, QUEUE, 2, SOME[:1] + (bench,))
        self.assertRaised(BadLog, {"place": 0}, bench_behind, QUEUE, 2, ((bench,),))
        self.assertRaised(BadLog, {"place": 0}, bench_behind, QUEUE, 2, (("load", bench),))
        self.assertRaised(BadLog, {"place": 0}, bench_behind, QUEUE, 2, all_books()[1:])
        self.assertSame(bench_behind(QUEUE, 2, all_books()[:0]).row, ())
        self.assertSame(bench_behind(QUEUE, 2, read_log(log_text(SOME))) == bench, True)

    def test_calls_by_names_and_what_is_handed_in(self):
        value = (("load", (0, 1)), ("do", ["take left", {0: [1]}]))
        given = copy.deepcopy(value)
        self.assertRaised(BadLog, {"place": 1}, bench_behind, value=given, many=2, book=QUEUE)
        self.assertSame(given, value)
        self.assertSame(bench_behind(value=SOME, book=QUEUE, many=2).row, (0, 1, 1))
        self.assertSame(log_text(log=SOME), log_text(SOME))
        self.assertSame(read_log(value="undo"), (("undo",),))
        self.assertRaised(BadText, {"line": 0}, read_log, value=[["undo"]])


class TestTimes(Case):
    def test_240_calls(self):
        draw = random.Random(844)
        teller = drawn_teller(draw, 24, 3, 99)
        log = (("add", "abcdefghijkl", teller),) * 60 + (("undo",),) * 60 + (("redo",),) * 60 + (("undo",),) * 60
        with self.assertQuick(2):
            text = log_text(log)
        with self.assertQuick(2):
            self.assertSame(read_log(text), log)
        with self.assertQuick(2):
            self.assertEqual(bench_behind(ALL_ENDS, 3, log).undone, 60)
