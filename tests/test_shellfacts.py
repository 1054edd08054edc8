"""[K3]: what holds of rows of lines that are said to a shell."""

import math
import random

from endkeepers.histories import history
from endkeepers.moving import led
from endkeepers.runtexts import book_text, read_book, read_run
from endkeepers.shells import Shell
from endkeepers.tellertexts import read_teller

from tests.helping import BOOKS, Case
from tests.saying import ASKING, drawn_line, row_of


def said(draw, lines, first=None):
    """A shell to which drawn lines were said, and its first line."""
    shell = Shell()
    many = draw.choice((1, 2, 2, 2, 3))
    first = first or "bench %d %s" % (many, book_text(draw.choice(BOOKS)))
    assert shell.say(first) == "begun"
    for _ in range(lines):
        line = drawn_line(draw, many)
        if not line.startswith("bench"):
            shell.say(line)
    return shell, first


class TestShellFacts(Case):
    def test_run_said_to_a_new_shell(self):
        draw = random.Random(900)
        longest = 0
        for _ in range(150):
            shell, first = said(draw, draw.choice((3, 20, 100)))
            lines = shell.say("run").split("\n")
            longest = max(longest, len(lines))
            if len(lines) > 60:
                continue
            other = Shell()
            self.assertSame(other.say(first), "begun")
            self.assertSame(other.say("load" + lines[0][3:]), "version 1")
            for number, line in enumerate(lines[1:]):
                self.assertSame(other.say(line), "version %d" % (number + 2))
            for ask in ("row", "open", "run"):
                self.assertSame(other.say(ask), shell.say(ask))
            row, deeds = read_run(shell.say("run"))
            figure, text = first[6], first[8:]
            behind = led(read_book(text), int(figure), row, deeds)
            self.assertSame(shell.say("row"), " ".join(map(str, behind)) or "empty")
        self.assertGreater(longest, 5)

    def test_runs_of_60_lines(self):
        shell, other = Shell(), Shell()
        for line in ("bench 2 put right, take right", "load 0 1") + ("put right 1", "put right 0", "take right") * 19:
            shell.say(line)
        self.assertEqual(len(shell.say("run").split("\n")), 58)
        self.assertSame([shell.say("put right 1"), shell.say("put right 1"), shell.say("put right 1")],
                        ["version 59", "version 60", "error TooManyEdits"])
        lines = shell.say("run").split("\n")
        other.say("bench 2 put right, take right")
        for line in ["load" + lines[0][3:]] + lines[1:]:
            self.assertIn("version", other.say(line))
        self.assertSame(other.say("row"), shell.say("row"))

    def test_need_of_as_many_letters_as_the_row(self):
        draw = random.Random(901)
        tried = 0
        for _ in range(150):
            shell, _ = said(draw, draw.choice((5, 20, 60)))
            needs, row = shell.say("needs"), shell.say("row")
            if needs in ("none", "error Unfit", "error TooMany"):
                continue
            letters = 0 if row == "empty" else len(row.split(" "))
            for pair in needs.split(", "):
                name, number = pair.split(" ")
                tried += 1
                self.assertSame(shell.say("need %s %d" % (name, letters)), number)
        self.assertGreater(tried, 100)

    def test_joint_lies_between(self):
        draw = random.Random(902)
        tried = 0
        for _ in range(150):
            shell, _ = said(draw, draw.choice((5, 20, 60)))
            needs, joint = shell.say("needs"), shell.say("joint")
            if joint.startswith("error") or needs.startswith("error"):
                continue
            tried += 1
            numbers = [int(pair.split(" ")[1]) for pair in needs.split(", ")]
            self.assertLessEqual(max(numbers), int(joint))
            self.assertLessEqual(int(joint), math.prod(numbers))
        self.assertGreater(tried, 60)

    def test_parts_tells_whether_a_keeper_has_unlike_states(self):
        draw = random.Random(903)
        told = {}
        for _ in range(200):
            shell, first = said(draw, draw.choice((5, 20)))
            row = row_of(shell.say("row").replace("empty", ""))
            book = read_book(first[8:])
            for name in shell.say("names").split(" "):
                text = shell.say("text " + name)
                if text.startswith("error"):
                    continue
                teller = read_teller(text.replace("; ", "\n"))
                value = tuple(draw.randrange(int(first[6])) for _ in row)
                answer = shell.say("parts " + name + "".join(" %d" % letter for letter in value))
                told[answer] = True
                if answer in ("yes", "no"):
                    unlike = history(teller, book, row) != history(teller, book, value)
                    self.assertSame(answer, "yes" if unlike else "no")
        self.assertGreaterEqual(set(told), {"yes", "no"})

    def test_lines_that_ask_or_are_none_change_nothing(self):
        draw = random.Random(904)
        asks = ("row", "run", "names", "tells", "needs", "joint", "book", "open")
        for _ in range(60):
            shell, _ = said(draw, 20)
            before = [shell.say(ask) for ask in asks]
            for _ in range(40):
                line = drawn_line(draw, 2)
                if line.split(" ")[0] in ASKING:
                    self.assertNotIn(shell.say(line), ("what", "no bench"))
                texts = line.startswith(("bench", "add"))
                self.assertSame(shell.say(line + " "), "error BadText" if texts else "what")
                self.assertSame(shell.say(" " + line), "what")
                self.assertSame([shell.say(ask) for ask in asks], before)
            # What could be undone ahead of asking can be undone behind it, and done again.
            if shell.say("undo") != "error NothingToUndo":
                shell.say("redo")
            self.assertSame([shell.say(ask) for ask in asks], before)
