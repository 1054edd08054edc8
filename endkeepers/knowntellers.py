"""Tellers that are known by a name."""

from endkeepers.bounds import MAX_KINDS
from endkeepers.common import is_whole
from endkeepers.errors import Unfit
from endkeepers.tellers import least


def _by_begins(state, letter):
    """1: the first letter is a 0. 2: it is another one."""
    if state == 0:
        return 1 if letter == 0 else 2
    return state


def _by_count(state, letter):
    """The state is the number of 0s, 3 standing for all numbers above two."""
    return min(state + 1, 3) if letter == 0 else state


def _by_ends(state, letter):
    """1: the last letter is a 0."""
    return 1 if letter == 0 else 0


def _by_holds(state, letter):
    """1: there is a 0."""
    return 1 if letter == 0 else state


def _by_length(state, letter):
    """The state is what the number of letters leaves, whichever these are."""
    return (state + 1) % 3


def _by_next(state, letter):
    """1: the last letter is a 0. 2: somewhere a 1 stands just behind a 0."""
    if state == 2 or (state == 1 and letter == 1):
        return 2
    return 1 if letter == 0 else 0


def _by_parity(state, letter):
    """1: the number of 0s is odd."""
    return 1 - state if letter == 0 else state


def _by_sorted(state, letter):
    """0 to 2: the last letter, 0 if there is none. 3: a letter stood behind a greater one."""
    # 3 is greater than all letters, so it stays.
    return letter if letter >= state else 3


# To which state a letter leads from a state, and what is told in each state. Both are made for
# three kinds; with fewer some states are never come to, and least leaves them out.
STEPS = {
    "begins": _by_begins,
    "count": _by_count,
    "ends": _by_ends,
    "holds": _by_holds,
    "length": _by_length,
    "next": _by_next,
    "parity": _by_parity,
    "sorted": _by_sorted,
}
TELLS = {
    "begins": (0, 1, 0),
    "count": (0, 1, 2, 3),
    "ends": (0, 1),
    "holds": (0, 1),
    "length": (0, 1, 2),
    "next": (0, 0, 1),
    "parity": (0, 1),
    "sorted": (1, 1, 1, 0),
}


def known_names():
    """Return the ascending tuple of the names."""
    return tuple(sorted(TELLS))


def known_teller(name, many):
    """Return the least teller of this name for many kinds; Unfit() if there is none."""
    if not isinstance(name, str) or name not in TELLS or not is_whole(many, 1, MAX_KINDS):
        raise Unfit()
    step = STEPS[name]
    tells = TELLS[name]
    moves = tuple([tuple([step(state, letter) for letter in range(many)]) for state in range(len(tells))])
    return least((moves, tells))
