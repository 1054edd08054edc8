"""Histories: what the pieces of a row tell that deeds can leave of it."""

from endkeepers.books import grows_left, has_take, is_bare
from endkeepers.classes import agreements, class_of
from endkeepers.errors import Unfit
from endkeepers.tellers import least


def history(teller, book, row):
    """Return the history of the row, item by item; Unfit() for the bare book."""
    if is_bare(book):
        raise Unfit()
    if "slide" in book:
        return _window_history(teller, row)
    if not has_take(book):
        return (class_of(teller, book, row),)
    mark, item, step = growth(teller, book)
    items = [item]
    for letter in (row[::-1] if grows_left(book) else row):
        mark, item = step(mark, letter)
        items.append(item)
    return tuple(items)


def _window_history(teller, row):
    """Return the history of the row by slides: what its pieces tell behind as many letters as are gone."""
    moves, _ = least(teller)
    tables = agreements(teller, len(row))
    action = tuple(range(len(moves)))
    items = [tables[len(row)][0]]
    for place in range(len(row) - 1, -1, -1):
        action = put_ahead(moves, action, row[place])
        items.append(tables[place][action[0]])
    return tuple(items)


def put_ahead(moves, table, letter):
    """Return what a letter ahead makes of a table that has what a row comes to from each state."""
    return tuple([table[item[letter]] for item in moves])


def put_behind(moves, states, letter):
    """Return what a letter behind makes of a tuple of states."""
    return tuple([moves[state][letter] for state in states])


def marking(teller, book):
    """Return the mark of (), the mark behind a letter more, and the class by the mark.

    book has at most one take. Its rows grow at the end that goes; if none does, at an end
    where letters come. onward(mark, letter) is the mark of the row with the letter, and
    class_by(mark) the class of the row.
    """
    moves, tells = least(teller)
    each = tuple(range(len(moves)))
    if grows_left(book):
        first = each if "put right" in book else tells
        onward = lambda mark, letter: put_ahead(moves, mark, letter)
        read = lambda mark: mark
    else:
        ends = each if "put right" in book else tells
        first = each if "put left" in book else (0,)
        onward = lambda mark, letter: put_behind(moves, mark, letter)
        read = lambda mark: tuple([ends[state] for state in mark])

    def class_by(mark):
        return read(mark) if "put left" in book else read(mark)[0]

    return first, onward, class_by


def growth(teller, book):
    """Return the mark of (), its item, and what comes of a mark by a letter more.

    book has a take, but is not the bare one. step(mark, letter) is the pair of the mark of
    the row with the letter and of the item that it brings.
    """
    if "take left" in book and "take right" in book:
        return _growth_at_both_ends(teller, book)
    first, onward, class_by = marking(teller, book)

    def step(mark, letter):
        there = onward(mark, letter)
        return there, class_by(there)

    return first, class_by(first), step


def _growth_at_both_ends(teller, book):
    """Return what growth does for a book with both takes."""
    moves, tells = least(teller)
    if "put left" in book and "put right" in book:
        return (), (), lambda mark, letter: ((), tuple([item[letter] for item in moves]))
    # The mark is the tuple of the classes of the pieces that end with the last letter, or
    # begin with the first one, and of the empty piece.
    if grows_left(book):
        empty = tells
        comes_to = lambda part, letter: put_ahead(moves, part, letter)
    else:
        empty = 0
        comes_to = lambda part, letter: moves[part][letter]

    def step(mark, letter):
        item = tuple([comes_to(part, letter) for part in mark])
        return tuple(sorted(set(item + (empty,)))), item

    return (empty,), (empty,), step


def told_apart(teller, book, one, other):
    """Tell whether the rows have unlike histories; Unfit() for the bare book or unlike lengths."""
    if is_bare(book) or len(one) != len(other):
        raise Unfit()
    return history(teller, book, one) != history(teller, book, other)
