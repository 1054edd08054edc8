"""Windows: rows of which each slide takes the first letter and puts one at the right."""

from endkeepers.bounds import MAX_COUNTING, MAX_NEED
from endkeepers.classes import turning
from endkeepers.common import counted, explored, is_whole, led_by, tallied, walked
from endkeepers.errors import Unfit
from endkeepers.histories import put_ahead
from endkeepers.tellers import kinds, least

# A step's label is a pair of one of these and its item: so steps on stand ahead of steps out.
ON = 0
OUT = 1


def window_ways(teller):
    """Return for each place (spot, on, out), on and out being its steps in the round and out of it."""
    spots, steps, _ = window_places(teller)
    return tuple([
        (spot, _steps_that_go(ON, pairs), _steps_that_go(OUT, pairs)) for spot, pairs in zip(spots, steps)
    ])


def _steps_that_go(where, pairs):
    """Return the tuple of the pairs (item, place) of those steps that go on, or of those that go out."""
    return tuple([(label[1], there) for label, there in pairs if label[0] == where])


def window_places(teller):
    """Return the spots of all places, their steps as pairs (label, place), and the turn (b, p)."""
    tables, turn = turning(teller)
    moves, _ = least(teller)
    many = kinds(teller)
    each = tuple(range(len(moves)))
    marks, longer = explored(each, many, lambda mark, letter: put_ahead(moves, mark, letter), MAX_COUNTING)
    heads = [mark[0] for mark in marks]

    def steps_from(place):
        lot, spot = place
        found = []
        for where, behind in _next_spots(turn, spot):
            reached = {}
            for mark in lot:
                for there in longer[mark]:
                    reached.setdefault(tables[behind][heads[there]], {})[there] = True
            found.extend([((where, item), (tuple(sorted(reached[item])), behind)) for item in sorted(reached)])
        return found

    starts = [((0,), spot) for spot in range(len(tables))]
    places, steps = walked(starts, steps_from, MAX_COUNTING)
    return [spot for _, spot in places], steps, turn


def _next_spots(turn, spot):
    """Return the list of the pairs (ON or OUT, the spot to which a step leads so)."""
    start, length = turn
    if spot > start:
        return [(ON, spot - 1)]
    found = [(ON, start + length - 1)] if spot == start else []
    return found + [(OUT, spot - 1)] if spot > 0 else found


def window_machine(teller):
    """Return what counts the window's histories, as counted takes it."""
    spots, steps, turn = window_places(teller)
    # The starts have the numbers of their spots. A way ends with the phase 0, at the spot 0.
    return tallied(steps), [1 if spot == 0 else 0 for spot in spots], turn


def window_need(teller, number):
    """Return how many unlike histories the rows of so many letters have by slides."""
    if not is_whole(number, 0, MAX_NEED):
        raise Unfit()
    return counted(window_machine(teller), number)[number]


def window_items(teller, rest, row):
    """Return the tuple of the items that the row's letters add, from the last one on, in the round."""
    tables, turn = turning(teller)
    _check_rest(turn, rest)
    moves, _ = least(teller)
    spot = turn[0] + rest
    action = tuple(range(len(moves)))
    items = []
    for letter in reversed(row):
        spot = _next_spots(turn, spot)[0][1]
        action = put_ahead(moves, action, letter)
        items.append(tables[spot][action[0]])
    return tuple(items)


def _check_rest(turn, rest):
    """Raise Unfit() if rest is no rest of this turn."""
    if not is_whole(rest, 0, turn[1] - 1):
        raise Unfit()


def window_place(teller, rest, row):
    """Return the number of the place to which the row's items lead from the start of this rest."""
    items = window_items(teller, rest, row)
    _, steps, turn = window_places(teller)
    return led_by(steps, turn[0] + rest, [(ON, item) for item in items])
