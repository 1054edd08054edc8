"""Texts of runs, that is, of a row and deeds, and texts of books."""

from endkeepers.books import WORDS, all_books
from endkeepers.bounds import MAX_DEEDS, MAX_KINDS, MAX_ROW
from endkeepers.common import read_number
from endkeepers.errors import BadText
from endkeepers.moving import deeds_of


def run_text(row, deeds):
    """Return the text of the run of this row and these deeds."""
    return "\n".join([line_of("row", row)] + [deed_line(deed) for deed in deeds])


def line_of(word, letters):
    """Return the line of a word and the letters behind it."""
    return " ".join([word] + [str(letter) for letter in letters])


def deed_line(deed):
    """Return the line of a deed."""
    return line_of(deed[0], deed[1:])


def deeds_by_lines():
    """Return, as a dict, for the lines of all deeds of letters of three kinds these deeds."""
    return {deed_line(deed): deed for deed in deeds_of(WORDS, MAX_KINDS)}


def read_run(value):
    """Return the run of which value is the text; BadText(line) with its first wrong line."""
    if not isinstance(value, str):
        raise BadText(0)
    lines = value.split("\n")
    row = read_row(lines[0], "row")
    if row is None:
        raise BadText(0)
    known = deeds_by_lines()
    deeds = []
    for place in range(1, len(lines)):
        if place > MAX_DEEDS or lines[place] not in known:
            raise BadText(place)
        deeds.append(known[lines[place]])
    return row, tuple(deeds)


def read_row(line, first):
    """Return the row that a line tells, or None if it is no line of this first word and a row."""
    words = line.split(" ")
    row = tuple([read_number(word, MAX_KINDS - 1) for word in words[1:]])
    if words[0] != first or len(row) > MAX_ROW or None in row:
        return None
    return row


def book_text(book):
    """Return the text of the book."""
    return ", ".join(book) if book else "none"


def read_book(value):
    """Return the book of which value is the text; BadText(0) if it is none."""
    for book in all_books():
        if value == book_text(book):
            return book
    raise BadText(0)
