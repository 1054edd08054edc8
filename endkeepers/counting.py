"""Counting: the lots of rows, and the ways between them, one for each history."""

from endkeepers.books import grows_left, has_take, is_bare
from endkeepers.bounds import MAX_COUNTING
from endkeepers.common import explored, least_to_left, led_by, same_follow, walked
from endkeepers.errors import Unfit
from endkeepers.histories import growth
from endkeepers.tellers import kinds


class Lots:
    """The lots of a teller and a book with a take, and the marks that they are made of.

    steps has, for each lot, the pairs (item, lot) of the steps from it, ascending. An item
    is told here by its place in labels, the ascending list of all items that come.
    """

    def __init__(self, leftward, labels, table, steps):
        self.leftward = leftward
        self.labels = labels
        # For each mark, and each letter, the pair (item, mark) to which it leads.
        self.table = table
        self.steps = steps

    def items_of(self, row):
        """Return the list of the items that the row's letters bring."""
        mark = 0
        found = []
        for letter in (row[::-1] if self.leftward else row):
            item, mark = self.table[mark][letter]
            found.append(item)
        return found

    def number_of(self, row):
        """Return the number of the row's lot."""
        return led_by(self.steps, 0, self.items_of(row))

    def alike(self, one, other):
        """Tell whether the same items follow two rows."""
        return same_follow(self.steps, self.number_of(one), self.number_of(other))

    def least_row(self, items):
        """Return the least row, as tuples, whose letters bring these items."""
        # For each item, by ascending letters: the letter and the marks between which it brings the item.
        brings = [[] for _ in self.labels]
        for letter in range(len(self.table[0])):
            for mark, pairs in enumerate(self.table):
                brings[pairs[letter][0]].append((letter, mark, pairs[letter][1]))
        lines = [brings[item] for item in items]
        return least_to_left(lines) if self.leftward else _least_to_right(lines, len(self.table))


def _least_to_right(lines, many):
    """Return the least row that grows right; a line has what may bring an item, many is how many marks there are."""
    # From the end on: the marks from which the items from there on can come.
    fit = [{mark: True for mark in range(many)}]
    for line in reversed(lines):
        fit.append({mark: True for _, mark, there in line if there in fit[-1]})
    here = 0
    row = []
    for place, line in enumerate(lines):
        behind = fit[len(lines) - 1 - place]
        letter, here = [(letter, there) for letter, mark, there in line if mark == here and there in behind][0]
        row.append(letter)
    return tuple(row)


def lots_of(teller, book):
    """Return the Lots of a teller and a book; Unfit() without a take or for the bare book, TooMany."""
    if is_bare(book) or not has_take(book):
        raise Unfit()
    first, _, step = growth(teller, book)
    many = kinds(teller)
    marks, moves = explored(first, many, lambda mark, letter: step(mark, letter)[0], MAX_COUNTING)
    brought = [[step(mark, letter)[1] for letter in range(many)] for mark in marks]
    labels = sorted(set([item for items in brought for item in items]))
    places = {item: place for place, item in enumerate(labels)}
    table = [
        [(places[item], there) for item, there in zip(items, line)] for items, line in zip(brought, moves)
    ]
    _, steps = walked([(0,)], lambda lot: _steps_from(table, lot), MAX_COUNTING)
    return Lots(grows_left(book), labels, table, steps)


def _steps_from(table, lot):
    """Return the list of the pairs (item, lot) of the steps from a lot, a tuple of marks, by ascending items."""
    reached = {}
    for mark in lot:
        for item, there in table[mark]:
            reached.setdefault(item, {})[there] = True
    return [(item, tuple(sorted(reached[item]))) for item in sorted(reached)]


def ways(teller, book):
    """Return for each lot the ascending tuple of its steps, the pairs (item, lot that comes by it)."""
    lots = lots_of(teller, book)
    return tuple([tuple([(lots.labels[item], there) for item, there in pairs]) for pairs in lots.steps])


def lot_of(teller, book, row):
    """Return the number of the row's lot."""
    return lots_of(teller, book).number_of(row)


def go_alike(teller, book, one, other):
    """Tell whether the same items follow two rows."""
    return lots_of(teller, book).alike(one, other)


def least_like(teller, book, row):
    """Return the least row, as tuples, of as many letters with the same history."""
    lots = lots_of(teller, book)
    return lots.least_row(lots.items_of(row))
