"""Deeds: which there are, which can be done, and what they leave of a row."""

from endkeepers.books import WORDS
from endkeepers.bounds import MAX_DEEDS
from endkeepers.common import is_whole
from endkeepers.errors import BadRun, Refused, TooMany

# A slide does both: it puts a letter, and it takes one.
PUTTING = ("put left", "put right", "slide")
TAKING = ("slide", "take left", "take right")


def deeds_of(book, many):
    """Return the ascending tuple of all deeds of the book, with letters of many kinds."""
    deeds = []
    for word in book:
        if word in PUTTING:
            deeds.extend([(word, letter) for letter in range(many)])
        else:
            deeds.append((word,))
    return tuple(deeds)


def deed_error(book, many, row, value):
    """Return None if value is a deed that can be done to the row, otherwise what is wrong first."""
    if not _is_built_as_deed(value):
        return "form"
    word = value[0]
    if word in PUTTING and not is_whole(value[1], 0, many - 1):
        return "letter"
    if word not in book:
        return "book"
    if word in TAKING and len(row) == 0:
        return "empty"
    return None


def _is_built_as_deed(value):
    """Tell whether value is a tuple of a word and, where a letter is put, one item more."""
    if not isinstance(value, tuple) or len(value) == 0 or value[0] not in WORDS:
        return False
    return len(value) == (2 if value[0] in PUTTING else 1)


def open_deeds(book, many, row):
    """Return the ascending tuple of the deeds that can be done to the row."""
    return tuple([deed for deed in deeds_of(book, many) if deed_error(book, many, row, deed) is None])


def after(book, many, row, deed):
    """Return the row behind one deed; Refused(word) if it cannot be done."""
    wrong = deed_error(book, many, row, deed)
    if wrong is not None:
        raise Refused(wrong)
    return _behind(row, deed)


def _behind(row, deed):
    """Return the row behind a deed that can be done to it."""
    word = deed[0]
    if word == "put left":
        return (deed[1],) + row
    if word == "put right":
        return row + (deed[1],)
    if word == "slide":
        return row[1:] + (deed[1],)
    if word == "take left":
        return row[1:]
    return row[:-1]


def led(book, many, row, deeds):
    """Return the row behind the deeds; BadRun(place) with the first one that cannot be done."""
    if len(deeds) > MAX_DEEDS:
        raise TooMany(MAX_DEEDS)
    here = row
    for place, deed in enumerate(deeds):
        if deed_error(book, many, here, deed) is not None:
            raise BadRun(place)
        here = _behind(here, deed)
    return here
