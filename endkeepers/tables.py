"""Tables: keepers written down, state by state, for rows of a few letters."""

from endkeepers.books import is_bare
from endkeepers.bounds import MAX_LEVEL, MAX_TABLE, MAX_TOLD
from endkeepers.common import is_whole, numbered
from endkeepers.errors import Unfit
from endkeepers.histories import history
from endkeepers.moving import after, deeds_of
from endkeepers.tellers import kinds, told


def level_behind(level, deed, last):
    """Return the level to which a deed leads, last being the last one, or None if it cannot be done."""
    if deed[0] == "slide":
        return level if level > 0 else None
    there = level + 1 if deed[0] in ("put left", "put right") else level - 1
    return there if 0 <= there <= last else None


def table_error(book, many, value):
    """Return None if value is a table for the book and so many kinds, otherwise what is wrong first."""
    if is_bare(book):
        raise Unfit()
    if not isinstance(value, tuple) or not 1 <= len(value) <= MAX_TABLE + 1:
        return "form"
    deeds = deeds_of(book, many)
    rows = 1
    for level, item in enumerate(value):
        if not _is_level(item, rows, len(deeds)):
            return ("level", level)
        rows = rows * many
    sizes = counts(value)
    for level, (_, states) in enumerate(value):
        places = [level_behind(level, deed, len(value) - 1) for deed in deeds]
        # How many states there are where a deed leads; None if it cannot be done.
        limits = [None if there is None else sizes[there] for there in places]
        for state, (_, nexts) in enumerate(states):
            if not all([_is_next(item, limit) for item, limit in zip(nexts, limits)]):
                return ("state", level, state)
    return None


def _is_level(value, rows, many):
    """Tell whether value is a pair of starts, one for each row, and states with many nexts, whatever these are."""
    if not isinstance(value, tuple) or len(value) != 2:
        return False
    starts, states = value
    if not isinstance(states, tuple) or not 1 <= len(states) <= MAX_LEVEL:
        return False
    if not isinstance(starts, tuple) or len(starts) != rows:
        return False
    if not all([is_whole(start, 0, len(states) - 1) for start in starts]):
        return False
    return all([_is_state(state, many) for state in states])


def _is_state(value, many):
    """Tell whether value is a pair of a number told and a tuple of many nexts, whatever these are."""
    if not isinstance(value, tuple) or len(value) != 2 or not is_whole(value[0], 0, MAX_TOLD):
        return False
    return isinstance(value[1], tuple) and len(value[1]) == many


def _is_next(value, limit):
    """Tell whether value is the number of one of so many states, or None if limit is None."""
    return value is None if limit is None else is_whole(value, 0, limit - 1)


def made(teller, book, size):
    """Return the table of the histories of rows of no letters to so many."""
    if is_bare(book) or not is_whole(size, 0, MAX_TABLE):
        raise Unfit()
    levels = rows_by_levels(kinds(teller), size)
    numbers = {}
    for rows in levels:
        found = numbered([history(teller, book, row) for row in rows])
        for row, number in zip(rows, found):
            numbers[row] = number
    return tuple([_made_level(teller, book, rows, numbers, size) for rows in levels])


def rows_by_levels(many, last):
    """Return the list of the ascending lists of the rows of no letters, of one letter, and so on, to last letters."""
    levels = [[()]]
    for _ in range(last):
        levels.append([row + (letter,) for row in levels[-1] for letter in range(many)])
    return levels


def _made_level(teller, book, rows, numbers, last):
    """Return the level of these rows; numbers has the number of the history of each row."""
    starts = tuple([numbers[row] for row in rows])
    deeds = deeds_of(book, kinds(teller))
    states = []
    for number in range(max(starts) + 1):
        # All rows of one history lead to one history, so the first one tells for all of them.
        row = rows[starts.index(number)]
        nexts = [
            None if level_behind(len(row), deed, last) is None else numbers[after(book, kinds(teller), row, deed)]
            for deed in deeds
        ]
        states.append((told(teller, row), tuple(nexts)))
    return starts, tuple(states)


def counts(table):
    """Return the tuple with, for each level of the table, how many states it has."""
    return tuple([len(states) for _, states in table])
