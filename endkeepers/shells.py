"""A shell: a bench that is told by lines what to do, and answers by strings."""

from endkeepers.amounts import bits, need
from endkeepers.benches import Bench
from endkeepers.benchlogs import in_one_line, teller_in_one_line
from endkeepers.errors import KeeperError
from endkeepers.grades import books_within, grade, most
from endkeepers.knowntellers import known_teller
from endkeepers.lines import read_line
from endkeepers.rules import rule, same_need
from endkeepers.runtexts import book_text, deed_line, read_book, run_text
from endkeepers.tellers import least
from endkeepers.tellertexts import teller_text

DEEDS = ("put left", "put right", "slide", "take left", "take right")
EDITS = ("add", "drop", "known", "load", "redo", "undo")
OF_THE_BENCH = ("book", "joint", "names", "needs", "open", "row", "run", "tells")


class Shell:
    """A bench, or none at first, that does what lines say."""

    def __init__(self):
        self._bench = None

    def say(self, line):
        """Do what the line says, and return the answer."""
        read = read_line(line)
        if read is None:
            return "what"
        word, parts = read
        if word != "bench" and self._bench is None:
            return "no bench"
        try:
            return self._answer(word, parts)
        except KeeperError as wrong:
            return f"error {type(wrong).__name__}"

    def _answer(self, word, parts):
        """Return the answer to a line of this word."""
        if word == "bench":
            # The book is read ahead of all else.
            book = read_book(parts[1])
            self._bench = Bench(book, parts[0])
            return "begun"
        bench = self._bench
        if word in DEEDS:
            return _version(bench.do((word, *parts)))
        if word in EDITS:
            return _version(_edited(bench, word, parts))
        if word in OF_THE_BENCH:
            return _told_of_bench(bench, word)
        if word == "like":
            return _shown(bench.least_now(parts[0]))
        if word == "parts":
            return "yes" if bench.can_part(parts[0], parts[1]) else "no"
        return _told_of_teller(bench, word, bench.teller_of(parts[0]), parts[1:])


def _version(number):
    """Return the answer to a line that has changed the bench."""
    return f"version {number}"


def _edited(bench, word, parts):
    """Do what is no deed to the bench, and return the version behind it."""
    if word == "add":
        return bench.add(parts[0], teller_in_one_line(parts[1]))
    if word == "known":
        return bench.add(parts[0], known_teller(parts[0], bench.many))
    if word == "drop":
        return bench.drop(parts[0])
    if word == "load":
        return bench.load(parts[0])
    return bench.undo() if word == "undo" else bench.redo()


def _told_of_bench(bench, word):
    """Return the answer to a line that asks of the bench alone."""
    if word == "row":
        return _shown(bench.row)
    if word == "run":
        return run_text(bench.begun, bench.deeds)
    if word == "names":
        return " ".join([name for name, _ in bench.named]) or "none"
    if word == "open":
        return _listed([deed_line(deed) for deed in bench.opened()])
    if word == "joint":
        return str(bench.joint_need())
    if word == "book":
        return book_text(bench.book)
    pairs = bench.tells() if word == "tells" else bench.needs_now()
    return _listed([f"{name} {number}" for name, number in pairs])


def _told_of_teller(bench, word, teller, parts):
    """Return the answer to a line that asks of a teller, whatever row there is."""
    book = bench.book
    if word == "need":
        return str(need(teller, book, parts[0]))
    if word == "bits":
        return str(bits(teller, book, parts[0]))
    if word == "rule":
        first, factors = rule(teller, book)
        return f"{_numbers(first)}; {_numbers(factors)}"
    if word == "grade":
        return _or_word(grade(teller, book), "share")
    if word == "most":
        return _or_word(most(teller, book), "none")
    if word == "same":
        return _or_word(same_need(teller, book, bench.teller_of(parts[0]), book), "always")
    if word == "text":
        return in_one_line(teller_text(least(teller)))
    return "; ".join([book_text(known) for known in books_within(teller, parts[0])])


def _shown(row):
    """Return the row as it is shown."""
    return _numbers(row) or "empty"


def _numbers(some):
    """Return the numbers with a blank between two."""
    return " ".join([str(number) for number in some])


def _listed(texts):
    """Return the texts with a comma between two, or that there are none."""
    return ", ".join(texts) or "none"


def _or_word(number, word):
    """Return the number as text, or the word if there is none."""
    return word if number is None else str(number)
