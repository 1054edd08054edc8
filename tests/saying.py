"""What the tests of shells share: a slow shell, by patterns, and drawn lines."""

import re

from endkeepers.amounts import bits, need
from endkeepers.benches import Bench
from endkeepers.errors import KeeperError
from endkeepers.grades import books_within, grade, most
from endkeepers.knowntellers import known_teller
from endkeepers.rules import rule, same_need
from endkeepers.runtexts import book_text, read_book, run_text
from endkeepers.tellers import least
from endkeepers.tellertexts import read_teller, teller_text

NAME, NUMBER, LETTERS = r"([^ ]+)", r"(0|[1-9][0-9]{0,2})", r"((?: [0-9])*)"
PATTERNS = (
    ("bench", r"bench ([0-9]) (.*)"), ("known", "known " + NAME), ("add", "add " + NAME + " (.*)"),
    ("drop", "drop " + NAME), ("load", "load" + LETTERS),
    ("do", "(put left|put right|slide) ([0-9])"), ("do", "(take left|take right)"),
    ("undo", "undo"), ("redo", "redo"),
    ("row", "row"), ("run", "run"), ("names", "names"), ("tells", "tells"), ("needs", "needs"), ("joint", "joint"),
    ("open", "open"), ("book", "book"),
    ("like", "like " + NAME), ("parts", "parts " + NAME + LETTERS),
    ("need", "need " + NAME + " " + NUMBER), ("bits", "bits " + NAME + " " + NUMBER), ("rule", "rule " + NAME),
    ("grade", "grade " + NAME), ("most", "most " + NAME), ("same", "same " + NAME + " " + NAME),
    ("text", "text " + NAME), ("books", "books " + NAME + " ([0-9])"),
)
ASKING = (
    "row", "run", "names", "tells", "needs", "joint", "open", "book", "like", "parts", "need", "bits", "rule", "grade",
    "most", "same", "text", "books",
)


def shown(row):
    """A row as it is shown."""
    return " ".join(map(str, row)) or "empty"


def row_of(letters):
    """The row of figures with blanks ahead."""
    return tuple(int(sign) for sign in letters.split())


class SlowShell:
    """A shell by patterns."""

    def __init__(self):
        self.bench = None

    def say(self, line):
        """The answer to a line."""
        if type(line) is not str:
            return "what"
        for word, pattern in PATTERNS:
            found = re.fullmatch(pattern, line, re.DOTALL)
            if found:
                break
        else:
            return "what"
        if word != "bench" and self.bench is None:
            return "no bench"
        try:
            return getattr(self, "say_" + word)(*found.groups())
        except KeeperError as error:
            return "error " + type(error).__name__

    def teller(self, name):
        """The teller of the name, which nothing told with it ahead."""
        known = dict(self.bench.named)
        # A bench without this name is asked of it.
        return known[name] if name in known else self.bench.least_now(name)

    def say_bench(self, figure, text):
        book = read_book(text)
        self.bench = Bench(book, int(figure))
        return "begun"

    def say_known(self, name):
        return "version %d" % self.bench.add(name, known_teller(name, self.bench.many))

    def say_add(self, name, text):
        teller = read_teller("\n".join(text.split("; ")))
        return "version %d" % self.bench.add(name, teller)

    def say_drop(self, name):
        return "version %d" % self.bench.drop(name)

    def say_load(self, letters):
        return "version %d" % self.bench.load(row_of(letters))

    def say_do(self, word, figure=None):
        return "version %d" % self.bench.do((word,) if figure is None else (word, int(figure)))

    def say_undo(self):
        return "version %d" % self.bench.undo()

    def say_redo(self):
        return "version %d" % self.bench.redo()

    def say_row(self):
        return shown(self.bench.row)

    def say_run(self):
        return run_text(self.bench.begun, self.bench.deeds)

    def say_names(self):
        return " ".join(name for name, _ in self.bench.named) or "none"

    def say_tells(self):
        return ", ".join("%s %d" % pair for pair in self.bench.tells()) or "none"

    def say_needs(self):
        return ", ".join("%s %d" % pair for pair in self.bench.needs_now()) or "none"

    def say_joint(self):
        return "%d" % self.bench.joint_need()

    def say_open(self):
        return ", ".join(" ".join(map(str, deed)) for deed in self.bench.opened()) or "none"

    def say_book(self):
        return book_text(self.bench.book)

    def say_like(self, name):
        return shown(self.bench.least_now(name))

    def say_parts(self, name, letters):
        return "yes" if self.bench.can_part(name, row_of(letters)) else "no"

    def say_need(self, name, number):
        return "%d" % need(self.teller(name), self.bench.book, int(number))

    def say_bits(self, name, number):
        return "%d" % bits(self.teller(name), self.bench.book, int(number))

    def say_rule(self, name):
        return "; ".join(" ".join(map(str, part)) for part in rule(self.teller(name), self.bench.book))

    def say_grade(self, name):
        found = grade(self.teller(name), self.bench.book)
        return "share" if found is None else str(found)

    def say_most(self, name):
        found = most(self.teller(name), self.bench.book)
        return "none" if found is None else str(found)

    def say_same(self, one, other):
        book = self.bench.book
        found = same_need(self.teller(one), book, self.teller(other), book)
        return "always" if found is None else str(found)

    def say_text(self, name):
        return "; ".join(teller_text(least(self.teller(name))).split("\n"))

    def say_books(self, name, figure):
        return "; ".join(map(book_text, books_within(self.teller(name), int(figure))))


BOOK_TEXTS = (
    "none", "put left", "put right", "put left, put right", "put right, take right", "put right, take left", "slide",
    "put left, put right, take left, take right", "take left", "take left, take right", "put left, take left, take right",
)
TELLER_TEXTS = (
    "0 0 tells 1; 1 1 tells 0", "1 0 tells 0; 1 0 tells 1", "0 tells 7", "1 0 0 tells 2; 1 1 0 tells 0", "1 0 tells 0",
    "0 0 tells 1;1 1 tells 0", "", "0 0 tells 1; ", "1 0 tells 0; 1 2 tells 0; 2 2 tells 1", "0 0 tells 100", "0 0\n",
    "1 0 tells 0\n1 0 tells 1",
)
NAMES = ("a", "mine", "next", "holds", "ends", "Mine", "x1", "none", "abcdefghijklm", "count", "a\nb")


def drawn_line(draw, many):
    """A line of the document for about so many kinds, most often one that can be done."""
    word = draw.choice((
        "bench", "known", "known", "known", "add", "drop", "load", "load", "do", "do", "do", "do", "undo", "redo",
    ) + ASKING)
    name = draw.choice(NAMES[2:6] if draw.random() < 0.8 else NAMES)
    letters = "".join(" %d" % draw.randrange(many) for _ in range(draw.choice((0, 1, 2, 3, 3, 6))))
    if draw.random() < 0.05:
        letters += draw.choice((" 9", " 3", " 0" * 41))
    if word == "bench":
        return "bench %d %s" % (draw.choice((0, 1, 2, 2, 3, 4)), draw.choice(BOOK_TEXTS + ("slide, put left", "", "x")))
    if word == "known":
        return "known " + name
    if word == "add":
        return "add %s %s" % (draw.choice(NAMES), draw.choice(TELLER_TEXTS))
    if word == "load":
        return "load" + letters
    if word == "do":
        deed = draw.choice(("put left", "put right", "slide", "take left", "take right"))
        return deed if deed.startswith("take") else "%s %d" % (deed, draw.choice((0, 1, 1, draw.randrange(10))))
    if word in ("drop", "like", "rule", "grade", "most", "text"):
        return word + " " + name
    if word == "parts":
        return "parts " + name + letters
    if word in ("need", "bits"):
        return "%s %s %d" % (word, name, draw.choice((0, 1, 2, 3, 7, 300, 301, 999)))
    if word == "same":
        return "same %s %s" % (name, draw.choice(NAMES[2:5]))
    if word == "books":
        return "books %s %d" % (name, draw.choice((0, 1, 2, 9)))
    return word


def bent(draw, line):
    """The line with a sign more, less or another one."""
    place = draw.randint(0, len(line))
    sign = draw.choice(" 0179ab;,\nX")
    kind = draw.choice(("more", "less", "other", "blank", "zero"))
    if kind == "more":
        return line[:place] + sign + line[place:]
    if kind == "less":
        return line[:place] + line[place + 1:]
    if kind == "other":
        return line[:place] + sign + line[place + 1:]
    if kind == "zero":
        return re.sub(r" ([0-9])", r" 0\1", line, count=1)
    return draw.choice((line + " ", " " + line, line.replace(" ", "  ", 1), line.replace(" ", "", 1)))
