"""Grades: whether the need is bounded, a power of the number of letters, or a share of everything."""

from endkeepers.amounts import need_machine
from endkeepers.books import all_books, has_take, is_bare
from endkeepers.common import branching_mark, counted, is_integer, rings_ahead, rings_of
from endkeepers.counting import lots_of
from endkeepers.errors import Unfit


def grade(teller, book):
    """Return the grade: 0 for bounded, d for the power d, None for a share."""
    if is_bare(book) or "slide" in book:
        raise Unfit()
    if not has_take(book):
        return 0
    steps = lots_of(teller, book).steps
    rings = rings_of(steps)
    if branching_mark(steps, rings) is not None:
        return None
    return max(rings_ahead(steps, rings).values()) - 1


def most(teller, book):
    """Return the greatest need of all if the grade is 0, otherwise None."""
    if grade(teller, book) != 0:
        return None
    machine = need_machine(teller, book)
    # Without a take the needs go round from here on; with one they stay as they are, as each
    # way has come to its ring by then.
    return max(counted(machine, len(machine[0])))


def books_within(teller, number):
    """Return the ascending tuple of the books whose grade is at most number, without the bare one and the slide."""
    if not is_integer(number) or number < 0:
        raise Unfit()
    books = [book for book in all_books() if not is_bare(book) and "slide" not in book]
    grades = [grade(teller, book) for book in books]
    return tuple([book for book, power in zip(books, grades) if power is not None and power <= number])
