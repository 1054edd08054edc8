"""Tellers and rows: what they are, what is told, the least teller, what parts two."""

from endkeepers.bounds import MAX_KINDS, MAX_ROW, MAX_STATES, MAX_TOLD
from endkeepers.common import explored, is_whole, numbered
from endkeepers.errors import Unfit


def teller_error(value):
    """Return None if value is a teller, otherwise the first thing that is wrong with it."""
    if not _is_pair_of_tuples(value):
        return "form"
    moves, tells = value
    if not 1 <= len(moves) <= MAX_STATES:
        return "states"
    wrong = _first_wrong_item(moves)
    if wrong is not None:
        return ("moves", wrong)
    if len(tells) != len(moves):
        return "tells"
    for state, number in enumerate(tells):
        if not is_whole(number, 0, MAX_TOLD):
            return ("tell", state)
    return None


def _is_pair_of_tuples(value):
    """Tell whether value is a tuple of two tuples."""
    if not isinstance(value, tuple) or len(value) != 2:
        return False
    return isinstance(value[0], tuple) and isinstance(value[1], tuple)


def _first_wrong_item(moves):
    """Return the place of the first item that is no tuple of states, one for each letter."""
    first = moves[0]
    if not isinstance(first, tuple) or not 1 <= len(first) <= MAX_KINDS:
        return 0
    for place, item in enumerate(moves):
        if not isinstance(item, tuple) or len(item) != len(first):
            return place
        if not all([is_whole(state, 0, len(moves) - 1) for state in item]):
            return place
    return None


def kinds(teller):
    """Return how many kinds of letters a teller has."""
    return len(teller[0][0])


def row_error(many, value):
    """Return None if value is a row of letters of many kinds, otherwise what is wrong first."""
    if not isinstance(value, tuple):
        return "form"
    if len(value) > MAX_ROW:
        return "long"
    for place, letter in enumerate(value):
        if not is_whole(letter, 0, many - 1):
            return ("letter", place)
    return None


def told(teller, row):
    """Return the number that the teller tells of the row."""
    moves, tells = teller
    state = 0
    for letter in row:
        state = moves[state][letter]
    return tells[state]


def least(teller):
    """Return the teller of the fewest states that tells the same of each row."""
    moves, tells = teller
    found, steps = explored(0, kinds(teller), lambda state, letter: moves[state][letter], len(moves))
    lots = _lots_of(steps, [tells[state] for state in found])
    # What was found stands in the order of the rows that first lead there, and lots are
    # numbered by the first of their states: so lots stand in the order of their rows, too.
    firsts = [lots.index(lot) for lot in range(max(lots) + 1)]
    least_moves = tuple([tuple([lots[state] for state in steps[first]]) for first in firsts])
    return least_moves, tuple([tells[found[first]] for first in firsts])


def _lots_of(moves, tells):
    """Return for each state the number of its lot: those from which the same is told."""
    lots = numbered(tells)
    before = 0
    while max(lots) + 1 > before:
        before = max(lots) + 1
        marks = [tuple([lot] + [lots[state] for state in item]) for lot, item in zip(lots, moves)]
        lots = numbered(marks)
    return lots


def parting_row(one, other):
    """Return the first row of which unlike numbers are told, or None; Unfit() for unlike kinds."""
    if kinds(one) != kinds(other):
        raise Unfit()
    rows = {(0, 0): ()}
    pairs = [(0, 0)]
    at = 0
    while at < len(pairs):
        here, there = pairs[at]
        if one[1][here] != other[1][there]:
            return rows[(here, there)]
        for letter in range(kinds(one)):
            pair = (one[0][here][letter], other[0][there][letter])
            if pair not in rows:
                rows[pair] = rows[(here, there)] + (letter,)
                pairs.append(pair)
        at += 1
    return None
