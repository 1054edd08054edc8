"""Amounts: how many states a keeper must have."""

from endkeepers.books import has_take
from endkeepers.bounds import MAX_COUNTING, MAX_NEED
from endkeepers.common import counted, explored, is_whole, tallied, walked
from endkeepers.counting import lots_of
from endkeepers.errors import Unfit
from endkeepers.histories import marking
from endkeepers.tellers import kinds
from endkeepers.windows import window_machine


def need(teller, book, number):
    """Return the need of rows of so many letters."""
    return needs(teller, book, number)[number]


def needs(teller, book, number):
    """Return the tuple of the needs of rows of no letters to so many letters."""
    if not is_whole(number, 0, MAX_NEED):
        raise Unfit()
    return tuple(counted(need_machine(teller, book), number))


def bits(teller, book, number):
    """Return the least number of bits that can tell so many states as rows of so many letters need."""
    return (need(teller, book, number) - 1).bit_length()


def need_machine(teller, book):
    """Return what counts the needs of teller and book, as counted takes it; Unfit() for the bare book.

    The size of teller and book is how many marks it has.
    """
    if "slide" in book:
        return window_machine(teller)
    if not has_take(book):
        return _class_machine(teller, book)
    # The bare book, which has takes, is refused there.
    tallies = tallied(lots_of(teller, book).steps)
    return tallies, [1] * len(tallies), (0, 1)


def _class_machine(teller, book):
    """Return what need_machine does for a book with neither take nor slide."""
    first, onward, class_by = marking(teller, book)
    marks, moves = explored(first, kinds(teller), onward, MAX_COUNTING)
    classes = [class_by(mark) for mark in marks]

    def longer(lot):
        return [(0, tuple(sorted(set([there for mark in lot for there in moves[mark]]))))]

    # A lot has the marks of all rows of one length; each leads to the next one alone.
    lots, steps = walked([(0,)], longer, MAX_COUNTING)
    return tallied(steps), [len(set([classes[mark] for mark in lot])) for lot in lots], (0, 1)
