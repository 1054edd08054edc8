"""Tellers made of tellers: read from the end, side by side, with other numbers told."""

from endkeepers.bounds import MAX_STATES, MAX_TOLD
from endkeepers.common import explored, is_whole
from endkeepers.errors import Unfit
from endkeepers.tellers import kinds, least


def mirrored(teller):
    """Return the least teller that tells of a row what teller tells of it read from its end."""
    moves, tells = least(teller)

    # A mark is what is told from each state behind the letters read so far; a letter more
    # stands ahead of these. Unlike marks differ at a state, and that one is come to by
    # some row: so no two marks are told alike, and what is found is least.
    def ahead(mark, letter):
        return tuple([mark[item[letter]] for item in moves])

    marks, turned = explored(tells, kinds(teller), ahead, MAX_STATES)
    return turned, tuple([mark[0] for mark in marks])


def paired(one, other):
    """Return the least teller of 10 a + b, one telling a and other b, both up to 9."""
    if kinds(one) != kinds(other) or max(one[1] + other[1]) > 9:
        raise Unfit()
    moves, answers = _side_by_side((one, other))
    return moves, tuple([10 * a + b for a, b in answers])


def joined(some):
    """Return the least teller of the rank of the tuple of what some tellers tell."""
    if len({kinds(teller) for teller in some}) != 1:
        raise Unfit()
    moves, answers = _side_by_side(some)
    ranks = {answer: rank for rank, answer in enumerate(sorted(set(answers)))}
    return moves, tuple([ranks[answer] for answer in answers])


def _side_by_side(some):
    """Return the moves of the least machine for some tellers at once, and what they tell in its states."""
    parts = [least(teller) for teller in some]

    # Unlike marks differ in the state of some least teller, and so are told apart by some
    # row: what is found is least.
    def onward(mark, letter):
        return tuple([part[0][state][letter] for part, state in zip(parts, mark)])

    marks, moves = explored((0,) * len(parts), kinds(some[0]), onward, MAX_STATES)
    answers = [tuple([part[1][state] for part, state in zip(parts, mark)]) for mark in marks]
    return moves, answers


def changed(teller, table):
    """Return the least teller that tells table[t] where teller tells t."""
    moves, tells = teller
    if not _is_table(table) or len(table) <= max(tells):
        raise Unfit()
    return least((moves, tuple([table[number] for number in tells])))


def _is_table(value):
    """Tell whether value is a tuple of integers that can be told."""
    return isinstance(value, tuple) and all([is_whole(number, 0, MAX_TOLD) for number in value])
