"""Texts of runs, that is, of a row and deeds, and texts of books."""

from endkeepers.books import WORDS, all_books
from endkeepers.bounds import MAX_DEEDS, MAX_KINDS, MAX_ROW
from endkeepers.common import read_number
from endkeepers.errors import BadText
from endkeepers.moving import deeds_of


def run_text(row, deeds):
    """Return the text of the run of this row and these deeds."""
    return "\n".join([_line("row", row)] + [_line(deed[0], deed[1:]) for deed in deeds])


def _line(word, letters):
    """Return the line of a word and the letters behind it."""
    return " ".join([word] + [str(letter) for letter in letters])


def read_run(value):
    """Return the run of which value is the text; BadText(line) with its first wrong line."""
    if not isinstance(value, str):
        raise BadText(0)
    lines = value.split("\n")
    row = _read_row(lines[0])
    if row is None:
        raise BadText(0)
    known = {_line(deed[0], deed[1:]): deed for deed in deeds_of(WORDS, MAX_KINDS)}
    deeds = []
    for place in range(1, len(lines)):
        if place > MAX_DEEDS or lines[place] not in known:
            raise BadText(place)
        deeds.append(known[lines[place]])
    return row, tuple(deeds)


def _read_row(line):
    """Return the row that a line tells, or None if it is no line of a row."""
    words = line.split(" ")
    row = tuple([read_number(word, MAX_KINDS - 1) for word in words[1:]])
    if words[0] != "row" or len(row) > MAX_ROW or None in row:
        return None
    return row


def book_text(book):
    """Return the text of the book."""
    return ", ".join(book) if book else "none"


def read_book(value):
    """Return the book of which value is the text; BadText(0) if it is none."""
    for book in all_books():
        if value == book_text(book):
            return book
    raise BadText(0)
