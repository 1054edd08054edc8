"""Partings: the fewest deeds that tell two rows apart."""

from endkeepers.books import is_bare
from endkeepers.bounds import MAX_DEEDS
from endkeepers.classes import agreements, state_behind
from endkeepers.errors import BadRun, Unfit
from endkeepers.moving import led
from endkeepers.tellers import kinds, least, told


def parting(teller, book, one, other):
    """Return any tuple of the fewest deeds of the book that tell the rows apart, or None if there is none."""
    _check(book, one, other)
    if "slide" in book:
        return _parting_slides(teller, one, other)
    moves, tells = least(teller)
    # Without a put at the right nothing can come behind; a gap has fewer letters than there are states.
    gaps = _gaps(moves, tells, len(moves) - 1 if "put right" in book else 0)
    leads = _leads(moves) if "put left" in book else {0: ()}
    found = []
    for first, last, here, there in _pieces(moves, book, one, other):
        for state, ahead in leads.items():
            gap = gaps[here[state]][there[state]]
            if gap is not None:
                deeds = first + len(one) - last + len(ahead) + gap
                found.append((deeds, first, last, ahead, here[state], there[state]))
    if not found:
        return None
    _, first, last, ahead, left, right = min(found)
    takes = (("take left",),) * first + (("take right",),) * (len(one) - last)
    behind = _parting_letters(moves, gaps, left, right)
    return takes + _puts("put left", ahead[::-1]) + _puts("put right", behind)


def _check(book, one, other):
    """Raise Unfit() for the bare book, or if the rows have unlike lengths."""
    if is_bare(book) or len(one) != len(other):
        raise Unfit()


def _puts(word, letters):
    """Return the deeds of this word with these letters, in order."""
    return tuple([(word, letter) for letter in letters])


def _pieces(moves, book, one, other):
    """Return the list of the pieces that takes can leave: from where to where, and the actions of both rows there."""
    found = []
    firsts = len(one) + 1 if "take left" in book else 1
    for first in range(firsts):
        here = there = tuple(range(len(moves)))
        for last in range(first, len(one) + 1):
            if last > first:
                here = tuple([moves[state][one[last - 1]] for state in here])
                there = tuple([moves[state][other[last - 1]] for state in there])
            if last == len(one) or "take right" in book:
                found.append((first, last, here, there))
    return found


def _leads(moves):
    """Return for each state, as a dict, a shortest row that leads to it."""
    rows = {0: ()}
    states = [0]
    at = 0
    while at < len(states):
        here = states[at]
        for letter, there in enumerate(moves[here]):
            if there not in rows:
                rows[there] = rows[here] + (letter,)
                states.append(there)
        at += 1
    return rows


def _gaps(moves, tells, most):
    """Return for each two states how many letters, as few as can be, tell them apart; None for more than most."""
    gaps = [[0 if a != b else None for b in tells] for a in tells]
    for number in range(1, most + 1):
        for one, left in enumerate(moves):
            for other, right in enumerate(moves):
                near = [gaps[here][there] for here, there in zip(left, right)]
                if gaps[one][other] is None and number - 1 in near:
                    gaps[one][other] = number
    return gaps


def _parting_letters(moves, gaps, one, other):
    """Return the fewest letters that tell two states apart."""
    row = []
    while gaps[one][other] > 0:
        near = [gaps[here][there] for here, there in zip(moves[one], moves[other])]
        letter = near.index(gaps[one][other] - 1)
        one, other = moves[one][letter], moves[other][letter]
        row.append(letter)
    return row


def _parting_slides(teller, one, other):
    """Return the fewest slides that tell the rows apart, or None."""
    moves, _ = least(teller)
    tables = agreements(teller, len(one))
    for number, table in enumerate(tables):
        here, there = state_behind(moves, 0, one[number:]), state_behind(moves, 0, other[number:])
        if table[here] != table[there]:
            row = []
            for left in range(number - 1, -1, -1):
                near = [tables[left][a] != tables[left][b] for a, b in zip(moves[here], moves[there])]
                letter = near.index(True)
                here, there = moves[here][letter], moves[there][letter]
                row.append(letter)
            return _puts("slide", row)
    return None


def parting_error(teller, book, one, other, value):
    """Return None if value is a tuple of deeds that tells the rows apart, otherwise what is wrong first."""
    _check(book, one, other)
    if not isinstance(value, tuple) or len(value) > MAX_DEEDS:
        return "form"
    try:
        # Both rows are as long as one another, so what can be done to one can be done to the other.
        here, there = led(book, kinds(teller), one, value), led(book, kinds(teller), other, value)
    except BadRun as wrong:
        return ("deed", wrong.place)
    return "alike" if told(teller, here) == told(teller, there) else None
