"""[K1] and [K2]: what a shell answers."""

import random

from endkeepers.amounts import need
from endkeepers.books import all_books
from endkeepers.knowntellers import known_names, known_teller
from endkeepers.runtexts import book_text
from endkeepers.shells import Shell
from endkeepers.tellertexts import teller_text

from tests.edges import LOTS_301, SIZES_25
from tests.helping import NO_STRINGS, Case, drawn_teller, ring
from tests.saying import ASKING, SlowShell, bent, drawn_line

# A line of each form, and those that ask.
LINES = (
    "known next", "add a 0 0 tells 1", "drop a", "load", "load 0 1", "put left 0", "put right 0", "slide 0", "take left",
    "take right", "undo", "redo", "row", "run", "names", "tells", "needs", "joint", "open", "book", "like a", "parts a",
    "parts a 0 1", "need a 0", "need a 300", "bits a 10", "rule a", "grade a", "most a", "same a b", "text a", "books a 0",
)
NO_LINES = (
    "", " ", "\n", "rows", "row ", " row", "Row", "row row", "row 0", "run 0", "names a", "tells a", "needs a", "joint a",
    "open 0", "book 0", "put", "put ", "put right", "put right ", "put right  0", "put right 10", "put left 10", "put right a",
    "put right 0 ", "put right -1", "put up 0", "put left right 0", "put  left 0", "take", "take left 0", "take left ",
    "take  left", "take up", "slide", "slide 10", "slide left 0", "slide  0", "undo ", "undo 1", "redo 1", "undoredo",
    "bench", "bench ", "bench 2", "bench put left", "bench 22 none", "bench  2 none", "bench two none", "bench -1 none",
    "bench a", "Bench 2 none", "known", "known ", "known  next", "known next ", "known a b", "add", "add ", "add mine",
    "add  0 0 tells 1", "drop", "drop ", "drop a b", "drop a ", "drop  a", "load0", "load 0  1", "load ", "load 0 ",
    "load 10", "load a", "load -1", "load\n", "load 0\n1", "loads", "like", "like ", "like a b", "like a 0", "like  a",
    "parts", "parts ", "parts  0", "parts a 10", "parts a  0", "parts a b", "parts a 0 ", "need", "need a", "need a ",
    "need 0", "need a 1000", "need a 007", "need a 00", "need a 01", "need a -1", "need a b", "need a 1 2", "need  1",
    "need a  1", "need a 1 ", "need a 1\n", "bits a", "bits a 0300", "bits a b", "rule", "rule a b", "grade", "grade a 0",
    "most", "most a b", "same", "same a", "same a ", "same a b c", "same  a b", "same a  b", "text", "text a b", "books",
    "books a", "books a 10", "books a 00", "books a b", "books 0", "twin", "version", "opened", "do put right 0", "quit",
    "what", "no bench", "put\nleft 0", "row\n", "\nrow", "take\nleft", "say row", "unknown next", "put left, put right",
)


class TestSay(Case):
    def says(self, shell, lines):
        """What a shell answers, line by line."""
        return [shell.say(line) for line in lines]

    def test_the_document(self):
        s = Shell()
        self.assertSame(
            self.says(s, ("row", "undo", "known next", "bench 2 put right, take right", "row", "names", "tells", "open",
                          "book")),
            ["no bench", "no bench", "no bench", "begun", "empty", "none", "none", "put right 0, put right 1",
             "put right, take right"],
        )
        self.assertSame(
            self.says(s, ("known next", "known holds", "load 0 1 1", "tells", "needs", "joint", "names")),
            ["version 1", "version 2", "version 3", "holds 1, next 1", "holds 4, next 7", "7", "holds next"],
        )
        self.assertSame(
            self.says(s, ("need next 300", "bits next 3", "grade next", "grade holds", "rule holds", "rule next",
                          "same holds next", "same next next", "most next")),
            ["45151", "3", "2", "1", "1 2; 2 -1", "1 2 4; 3 -3 1", "2", "always", "none"],
        )
        self.assertSame(
            self.says(s, ("like next", "like holds", "parts next 0 1 0", "parts holds 1 0 1", "parts holds 0", "text next",
                          "books holds 0")),
            ["0 1 0", "0 0 0", "no", "yes", "error Unfit", "1 0 tells 0; 1 2 tells 0; 2 2 tells 1",
             "none; put left; put left, put right; put right"],
        )
        self.assertSame(
            self.says(s, ("take right", "take right", "tells", "row", "take left", "undo", "redo", "redo", "run")),
            ["version 4", "version 5", "holds 1, next 0", "0", "error Refused", "version 4", "version 5",
             "error NothingToRedo", "row 0 1 1\ntake right\ntake right"],
        )
        self.assertSame(
            self.says(s, ("add mine 0 0 tells 1; 1 1 tells 0", "text mine", "grade mine", "need mine 9", "most mine",
                          "rule mine", "drop mine", "grade mine")),
            ["version 6", "0 0 tells 1", "0", "1", "1", "1; 1", "version 7", "error Unfit"],
        )
        self.assertSame(
            self.says(s, ("add mine 0 tells 1", "add mine 2 0 tells 1", "add Mine 0 0 tells 1", "known nexts", "load 0 2",
                          "put right 2", "grade none", "need next 301", "need next 007", "bench 2 slide, put left",
                          "bench 4 slide")),
            ["error Refused", "error BadText", "error Refused", "error Unfit", "error Refused", "error Refused",
             "error Unfit", "error Unfit", "what", "error BadText", "error Unfit"],
        )
        self.assertSame(
            self.says(s, ("", "rows", "row ", " row", "put right", "put right 10", "take left 0", "bench 2",
                          "bench put left", "add mine", "load 0  1", "load0", None)),
            ["what"] * 13,
        )
        self.assertSame(
            self.says(s, ("bench 2 slide", "known next", "needs", "load 0 0", "slide 1", "row", "grade next",
                          "bench 2 take left, take right", "needs", "known next", "needs")),
            ["begun", "version 1", "next 1", "version 2", "version 3", "0 1", "error Unfit", "begun", "none", "version 1",
             "error Unfit"],
        )

    def test_without_a_bench(self):
        s = Shell()
        for line in LINES:
            self.assertSame(s.say(line), "no bench")
        for line in NO_LINES + NO_STRINGS:
            self.assertSame(s.say(line), "what")
        # Where there is no bench no text is read, and no teller is looked up.
        for line in ("known nexts", "add mine xyz", "add mine ", "add Mine 0 0 tells 1", "need a 999", "books a 9"):
            self.assertSame(s.say(line), "no bench")
        self.assertSame(self.says(s, ("bench 2 x", "row", "bench 4 none", "row", "bench 0 none", "row", "bench 2 ", "row")),
                        ["error BadText", "no bench", "error Unfit", "no bench", "error Unfit", "no bench",
                         "error BadText", "no bench"])
        self.assertSame(self.says(s, ("bench 1 none", "row")), ["begun", "empty"])

    def test_lines_that_are_none(self):
        s = Shell()
        s.say("bench 2 put right, take left")
        s.say("known next")
        for line in NO_LINES + NO_STRINGS:
            with self.subTest(line=line):
                self.assertSame(s.say(line), "what")
        self.assertSame(self.says(s, ("names", "row", "book")), ["next", "empty", "put right, take left"])

    def test_drawn_lines(self):
        draw = random.Random(880)
        answers = {}
        for _ in range(120):
            s, slow = Shell(), SlowShell()
            many = draw.choice((1, 2, 2, 3))
            for number in range(draw.choice((10, 40, 90))):
                line = drawn_line(draw, many)
                if number == 0 and draw.random() < 0.9:
                    line = "bench %d %s" % (many, book_text(draw.choice(all_books())))
                if draw.random() < 0.1:
                    line = bent(draw, line)
                wanted = slow.say(line)
                self.assertSame(s.say(line), wanted)
                answers[(line.split(" ")[0], wanted.split(" ")[0])] = True
                answers[wanted] = True
        for word in ASKING + ("known", "add", "load", "put", "take", "slide", "undo", "redo"):
            self.assertIn((word, "error") if word not in ("row", "run", "names", "tells", "open", "book") else
                          (word, "no"), answers)
        wanted = {
            "what", "no bench", "begun", "error Unfit", "error BadText", "error Refused", "error NothingToUndo",
            "error NothingToRedo", "always", "share", "none", "empty", "yes", "no",
        }
        self.assertEqual(wanted - set(answers), set())

    def test_each_book_and_number_of_kinds(self):
        for book in all_books():
            for many in (1, 2, 3):
                s = Shell()
                self.assertSame(s.say("bench %d %s" % (many, book_text(book))), "begun")
                self.assertSame(self.says(s, ("book", "row", "run", "names")), [book_text(book), "empty", "row", "none"])
                self.assertSame(s.say("load 0 0"), "version 1")
                deeds = s.say("open")
                for word in book:
                    self.assertIn(word, deeds)
                self.assertEqual(deeds == "none", book == ())
            for figure in (0, 4, 5, 6, 7, 8, 9):
                self.assertSame(s.say("bench %d %s" % (figure, book_text(book))), "error Unfit")
                self.assertSame(s.say("book"), book_text(book))

    def test_known_tellers(self):
        for many in (1, 2, 3):
            s = Shell()
            s.say("bench %d put right, take right" % many)
            for number, name in enumerate(known_names()):
                self.assertSame(s.say("known " + name), "version %d" % (number + 1))
                text = teller_text(known_teller(name, many)).replace("\n", "; ")
                self.assertSame(s.say("text " + name), text)
                self.assertSame(s.say("need %s 300" % name), str(need(known_teller(name, many), ("put right", "take right"), 300)))
            for name in ("nexts", "Next", "nex", "row", "0", "next\n", "next;"):
                self.assertSame(s.say("known " + name), "error Unfit")
            self.assertSame(s.say("names"), " ".join(known_names()))

    def test_texts_and_names_are_looked_at_ahead_of_all_else(self):
        s = Shell()
        s.say("bench 2 put right, take right")
        for _ in range(60):
            s.say("load 0")
        # Ahead of what the bench refuses, and of too many edits.
        self.assertSame(
            self.says(s, ("known next", "known nexts", "add a 0 0 tells 1", "add A 0 0 tells 1", "add A x", "add a x",
                          "add a 0 tells 1", "bench 9 x", "bench 9 slide")),
            ["error TooManyEdits", "error Unfit", "error TooManyEdits", "error Refused", "error BadText", "error BadText",
             "error Refused", "error BadText", "error Unfit"],
        )
        self.assertSame(self.says(s, ("load 2", "put left 0", "drop a", "put right 0", "undo", "redo", "redo")),
                        ["error Refused", "error Refused", "error Refused", "error TooManyEdits", "version 59",
                         "version 60", "error NothingToRedo"])

    def test_texts_of_tellers(self):
        s = Shell()
        s.say("bench 2 put right, take right")
        self.assertSame(
            self.says(s, ("add a 1 0 tells 0; 1 0 tells 1", "text a", "add a 1 0 tells 0\n1 0 tells 1", "text a",
                          "add a 1 0 tells 0;1 0 tells 1", "add a 1 0 tells 0;  1 0 tells 1", "add a ", "add a 0 0 tells 1; ",
                          "add a  0 0 tells 1", "add a 0 0 tells 1 ", "add a 00 0 tells 1", "text a")),
            ["version 1", "1 0 tells 0; 1 0 tells 1", "version 2", "1 0 tells 0; 1 0 tells 1"] + ["error BadText"] * 7
            + ["1 0 tells 0; 1 0 tells 1"],
        )
        # The text that is told is that of the least teller.
        self.assertSame(self.says(s, ("add b 1 1 tells 5; 2 0 tells 5; 0 2 tells 5", "text b")), ["version 3", "0 0 tells 5"])
        many = "; ".join("%d 0 tells %d" % ((state + 1) % 24, state) for state in range(24))
        self.assertSame(self.says(s, ("add c " + many, "text c", "add d %s; 0 0 tells 0" % many)),
                        ["version 4", many, "error BadText"])

    def test_names_of_every_kind(self):
        s = Shell()
        s.say("bench 2 put right, take right")
        s.say("known next")
        for name in ("A", "a1", "a\nb", "abcdefghijklm", "0", "_", "next\n", ";", "a;"):
            self.assertSame(s.say("add %s 0 0 tells 1" % name), "error Refused")
            self.assertSame(s.say("drop " + name), "error Refused")
            for line in ("like %s", "parts %s", "parts %s 0", "need %s 0", "need %s 301", "bits %s 0", "rule %s", "grade %s",
                         "most %s", "same %s next", "same next %s", "text %s", "books %s 0"):
                self.assertSame(s.say(line % name), "error Unfit")
        self.assertSame(self.says(s, ("add abcdefghijkl 0 0 tells 1", "names")), ["version 2", "abcdefghijkl next"])

    def test_rows_and_letters(self):
        s = Shell()
        s.say("bench 3 put left, put right, take left, take right")
        s.say("known next")
        self.assertSame(
            self.says(s, ("load" + " 2" * 40, "row", "load" + " 0" * 41, "load 3", "load 9", "load", "row", "load 0 1 2",
                          "put left 2", "put right 9", "put right 1", "row", "run", "parts next 2 0 1 2 1",
                          "parts next 2 0 1 2 2", "parts next 2 0 1 2", "parts next 2 0 1 2 3", "parts next", "like next")),
            ["version 2", " ".join("2" * 40), "error Refused", "error Refused", "error Refused", "version 3", "empty",
             "version 4", "version 5", "error Refused", "version 6", "2 0 1 2 1", "row 0 1 2\nput left 2\nput right 1",
             "no", "yes", "error Unfit", "error Unfit", "error Unfit", "2 0 1 2 1"],
        )

    def test_rows_of_more_than_40_letters(self):
        s = Shell()
        self.says(s, ("bench 2 put right, take left", "known next", "load" + " 0" * 40, "put right 1"))
        self.assertSame(self.says(s, ("like next", "parts next" + " 0" * 41, "needs", "tells", "undo", "like next")),
                        ["error TooMany", "yes", "next 81", "next 1", "version 2", " ".join("0" * 40)])

    def test_errors_of_each_class(self):
        s = Shell()
        s.say("bench 3 put right, take left")
        text = teller_text(LOTS_301[1][1]).replace("\n", "; ")
        self.assertSame(s.say("add big " + text), "version 1")
        for line in ("needs", "joint", "need big 0", "bits big 1", "rule big", "grade big", "most big", "same big big",
                     "books big 0", "like big"):
            self.assertSame(s.say(line), "error TooMany")
        book, teller = SIZES_25[3]
        self.says(s, ("bench 2 " + book_text(book), "add wide " + teller_text(teller).replace("\n", "; ")))
        self.assertSame(self.says(s, ("rule wide", "need wide 0")), ["error TooMany", "1"])
        rings = [teller_text(ring(many, 0, 2)).replace("\n", "; ") for many in (5, 7)]
        self.assertSame(self.says(s, ("add five " + rings[0], "add seven " + rings[1], "drop wide", "joint", "needs")),
                        ["version 2", "version 3", "version 4", "error TooMany", "five 1, seven 1"])
        self.assertSame(self.says(s, ("undo",) * 5), ["version 3", "version 2", "version 1", "version 0", "error NothingToUndo"])

    def test_what_raises_changes_nothing(self):
        draw = random.Random(881)
        for _ in range(60):
            s, other = Shell(), Shell()
            first = "bench 2 " + book_text(draw.choice(all_books()))
            s.say(first), other.say(first)
            for _ in range(50):
                line = drawn_line(draw, 2)
                line = bent(draw, line) if draw.random() < 0.2 else line
                answer = s.say(line)
                # The other one is told only what was not answered so.
                if answer not in ("what", "no bench") and not answer.startswith("error"):
                    if line.split(" ")[0] not in ASKING:
                        self.assertSame(other.say(line), answer)
                for ask in ("row", "run", "names", "tells", "book", "open"):
                    self.assertSame(s.say(ask), other.say(ask))
            for line in ("undo", "redo"):
                self.assertSame(s.say(line), other.say(line))

    def test_two_shells_by_turns(self):
        draw = random.Random(882)
        shells = [(Shell(), SlowShell()) for _ in range(2)]
        for number in range(300):
            s, slow = shells[number % 2]
            line = drawn_line(draw, 2) if number > 1 else "bench 2 put right, take right"
            self.assertSame(s.say(line), slow.say(line))

    def test_calls_by_name(self):
        s = Shell()
        self.assertSame([s.say(line="row"), s.say(line=None), s.say(line="bench 2 slide"), s.say(line="book")],
                        ["no bench", "what", "begun", "slide"])
        value = [["row"], {0: ["row"]}]
        self.assertSame([s.say(value), value], ["what", [["row"], {0: ["row"]}]])

    def test_a_new_bench_in_place_of_the_old_one(self):
        s = Shell()
        self.says(s, ("bench 2 put right, take right", "known next", "load 0 1"))
        self.assertSame(self.says(s, ("bench 3 slide", "row", "names", "undo", "known next", "text next")),
                        ["begun", "empty", "none", "error NothingToUndo", "version 1",
                         "1 0 0 tells 0; 1 2 0 tells 0; 2 2 2 tells 1"])


class TestTimes(Case):
    def test_24_states_and_long_lines(self):
        draw = random.Random(883)
        for book in ("put right, take right", "slide", "put left, put right", "put left, put right, take left, take right"):
            s = Shell()
            s.say("bench 3 " + book)
            s.say("add a " + teller_text(drawn_teller(draw, 24, 3, 9)).replace("\n", "; "))
            s.say("load" + " 0 1 2" * 13)
            for line in ("needs", "joint", "like a", "parts a" + " 0" * 39, "need a 300", "bits a 300", "rule a", "grade a",
                         "most a", "same a a", "text a", "books a 9", "run", "tells"):
                with self.assertQuick(3):
                    s.say(line)
        s = Shell()
        s.say("bench 2 none")
        for line in ("load" + " 0" * 9990, "add a " + "0 0 tells 1; " * 1500, "known " + "a" * 19000, " " * 20000,
                     "parts a" + " 1" * 9000, "drop " + "b" * 19000, "x" * 20000, "\n" * 20000):
            with self.assertQuick(1):
                s.say(line)
