"""What several modules need and the interface does not list."""

from endkeepers.errors import TooMany


def is_whole(value, low, high):
    """Tell whether value is an integer from low to high."""
    # Python counts True and False as ints; the document does not.
    return isinstance(value, int) and not isinstance(value, bool) and low <= value <= high


def read_number(word, high):
    """Return the number from 0 to high that is written as word, or None if word is none.

    A number is written in the figures 0 to 9, without a zero ahead of another figure.
    """
    # Python refuses to read numbers of thousands of figures, so long words are sent back unread.
    if not word.isascii() or not word.isdecimal() or len(word) > len(str(high)):
        return None
    if len(word) > 1 and word[0] == "0":
        return None
    number = int(word)
    return number if number <= high else None


def numbered(marks):
    """Return the number of each mark, unlike marks being numbered as they first come."""
    numbers = {}
    return [numbers.setdefault(mark, len(numbers)) for mark in marks]


def explored(start, many, follow, limit):
    """Go from start to all that letters lead to, in the order of the rows that first lead there.

    follow(mark, letter) is the mark to which a letter leads. Returns the list of the
    marks, each at its number, and the tuple of the moves between the numbers.
    Raises TooMany(limit) if there are more than limit marks.
    """
    numbers = {start: 0}
    marks = [start]
    moves = []
    # A mark's letters are gone through behind those of all marks with earlier rows, in
    # order: so the earliest row that leads to a mark is the one that finds it.
    while len(moves) < len(marks):
        here = marks[len(moves)]
        item = []
        for letter in range(many):
            there = follow(here, letter)
            if there not in numbers:
                if len(marks) == limit:
                    raise TooMany(limit)
                numbers[there] = len(marks)
                marks.append(there)
            item.append(numbers[there])
        moves.append(tuple(item))
    return marks, tuple(moves)
