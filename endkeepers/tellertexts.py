"""Texts of tellers: a line for each state."""

from endkeepers.bounds import MAX_KINDS, MAX_STATES, MAX_TOLD
from endkeepers.common import read_number
from endkeepers.errors import BadText


def teller_text(teller):
    """Return the text of the teller."""
    moves, tells = teller
    lines = []
    for item, number in zip(moves, tells):
        states = " ".join([str(state) for state in item])
        lines.append(f"{states} tells {number}")
    return "\n".join(lines)


def read_teller(value):
    """Return the teller of which value is the text; BadText(line) with its first wrong line."""
    if not isinstance(value, str):
        raise BadText(0)
    lines = value.split("\n")
    moves = []
    tells = []
    for place, line in enumerate(lines):
        # States are below the number of all lines, also of those that are too many.
        read = _read_line(line, len(lines) - 1)
        if place == MAX_STATES or read is None:
            raise BadText(place)
        item, number = read
        if moves and len(item) != len(moves[0]):
            raise BadText(place)
        moves.append(item)
        tells.append(number)
    return tuple(moves), tuple(tells)


def _read_line(line, last):
    """Return the states, up to last, and the number told of a line, or None if it is wrong."""
    words = line.split(" ")
    if not 3 <= len(words) <= MAX_KINDS + 2 or words[-2] != "tells":
        return None
    item = tuple([read_number(word, last) for word in words[:-2]])
    number = read_number(words[-1], MAX_TOLD)
    if None in item or number is None:
        return None
    return item, number
