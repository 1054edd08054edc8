"""Fork papers: rows that show that a share of everything must be kept."""

from endkeepers.common import branching_mark, is_paper_row, rings_of, shortest_way
from endkeepers.counting import lots_of
from endkeepers.tellers import kinds


def fork(teller, book):
    """Return any fork of teller and book, or None if there is none."""
    lots = lots_of(teller, book)
    ways = fork_ways(lots.steps)
    return None if ways is None else tuple([lots.least_row(labels) for labels in ways])


def fork_ways(steps):
    """Return the labels of three ways: to a mark that branches, and from there back to it in two ways."""
    rings = rings_of(steps)
    mark = branching_mark(steps, rings)
    if mark is None:
        return None
    begin, _ = shortest_way(steps, 0, [mark])
    rounds = []
    for label, there in steps[mark]:
        if rings[there] == rings[mark]:
            back, _ = shortest_way(steps, there, [mark])
            rounds.append([label] + back)
    one, other = rounds[0], rounds[1]
    # Rounds of unlike lengths are gone both, in either order.
    if len(one) != len(other):
        one, other = one + other, other + one
    return begin, begin + one, begin + other


def fork_error(teller, book, value):
    """Return None if value is a fork of teller and book, otherwise what is wrong first."""
    lots = lots_of(teller, book)
    return fork_fault(kinds(teller), value, lots.items_of, lots.alike)


def fork_fault(many, value, items_of, alike):
    """Return what is wrong first with a fork, or None.

    items_of(row) has the items that the row's letters bring, and alike(one, other) tells
    whether two rows go alike.
    """
    if not isinstance(value, tuple) or len(value) != 3 or not all([is_paper_row(many, row) for row in value]):
        return "form"
    start, one, other = value
    if len(one) != len(other) or len(one) <= len(start):
        return "lengths"
    begin, left, right = items_of(start), items_of(one), items_of(other)
    if left[:len(begin)] != begin or right[:len(begin)] != begin:
        return "begin"
    if left == right:
        return "alike"
    if not alike(start, one) or not alike(start, other):
        return "onward"
    return None


def fork_least(paper, number):
    """Return what a fork tells of the need of so many letters: that it is at least this."""
    start, one, _ = paper
    if number < len(start):
        return 1
    return 1 << (number - len(start)) // (len(one) - len(start))
