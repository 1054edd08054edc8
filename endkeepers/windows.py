"""Windows: rows of which each slide takes the first letter and puts one at the right."""

from endkeepers.bounds import MAX_COUNTING, MAX_NEED
from endkeepers.classes import turning, turns
from endkeepers.common import counted, explored, is_whole, least_to_left, led_by, same_follow, tallied, walked
from endkeepers.errors import Unfit
from endkeepers.histories import put_ahead
from endkeepers.tellers import kinds, least

# A step's label is a pair of one of these and its item: so steps on stand ahead of steps out.
ON = 0
OUT = 1


class Windows:
    """The places of the windows of a teller, and the marks that they are made of.

    tables has the agreement at each spot, and turn is (b, p). spots and steps have, for each
    place, its spot and its steps, pairs ((ON or OUT, item), place); on has its steps on
    alone, pairs (item, place).
    """

    def __init__(self, teller):
        self.tables, self.turn = turning(teller)
        self.moves, _ = least(teller)
        each = tuple(range(len(self.moves)))
        marks, longer = explored(
            each, kinds(teller), lambda mark, letter: put_ahead(self.moves, mark, letter), MAX_COUNTING
        )
        # For each mark, and each letter, the mark to which it leads; and the state of its pieces.
        self.longer = longer
        self.heads = [mark[0] for mark in marks]
        starts = [((0,), spot) for spot in range(len(self.tables))]
        places, self.steps = walked(starts, self._steps_from, MAX_COUNTING)
        self.spots = [spot for _, spot in places]
        self.on = [_steps_that_go(ON, pairs) for pairs in self.steps]

    def _steps_from(self, place):
        """Return the list of the pairs (label, place) of the steps from a place, a pair (lot, spot)."""
        lot, spot = place
        found = []
        for where, behind in _next_spots(self.turn, spot):
            come = {}
            for mark in lot:
                for there in self.longer[mark]:
                    come.setdefault(self.tables[behind][self.heads[there]], {})[there] = True
            found.extend([((where, item), (tuple(sorted(come[item])), behind)) for item in sorted(come)])
        return found

    def items_of(self, rest, row):
        """Return the tuple of the items that the row's letters add in the round."""
        return _items_by(self.tables, self.turn, self.moves, rest, row)

    def place_of(self, rest, row):
        """Return the number of the place to which the row's items lead from the start of the rest."""
        return led_by(self.on, self.turn[0] + rest, self.items_of(rest, row))

    def alike(self, rest, one, other):
        """Tell whether the same items follow two rows."""
        return same_follow(self.on, self.place_of(rest, one), self.place_of(rest, other))

    def steps_behind(self, rest):
        """Return the steps on between the places to which they lead from the start of the rest, now numbered 0."""
        _, steps = walked([self.turn[0] + rest], lambda place: self.on[place], MAX_COUNTING)
        return steps

    def row_with(self, rest, items):
        """Return a row whose letters add these items in the round."""
        # For each item, from the last letter on, what may bring it: (letter, mark, mark behind it).
        lines = []
        come = {0: True}
        spot = self.turn[0] + rest
        for item in items:
            spot = _next_spots(self.turn, spot)[0][1]
            brings = [
                (letter, mark, there) for mark in come for letter, there in enumerate(self.longer[mark])
                if self.tables[spot][self.heads[there]] == item
            ]
            come = {there: True for _, _, there in brings}
            lines.append(sorted(brings))
        return least_to_left(lines)


def _steps_that_go(where, pairs):
    """Return the tuple of the pairs (item, place) of those steps that go on, or of those that go out."""
    return tuple([(label[1], there) for label, there in pairs if label[0] == where])


def _next_spots(turn, spot):
    """Return the list of the pairs (ON or OUT, the spot to which a step leads so)."""
    start, length = turn
    if spot > start:
        return [(ON, spot - 1)]
    found = [(ON, start + length - 1)] if spot == start else []
    return found + [(OUT, spot - 1)] if spot > 0 else found


def window_ways(teller):
    """Return for each place (spot, on, out), on and out being its steps in the round and out of it."""
    windows = Windows(teller)
    return tuple([
        (spot, on, _steps_that_go(OUT, pairs)) for spot, on, pairs in zip(windows.spots, windows.on, windows.steps)
    ])


def window_machine(teller):
    """Return what counts the window's histories, as counted takes it."""
    windows = Windows(teller)
    # The starts have the numbers of their spots. A way ends with the phase 0, at the spot 0.
    return tallied(windows.steps), [1 if spot == 0 else 0 for spot in windows.spots], windows.turn


def window_need(teller, number):
    """Return how many unlike histories the rows of so many letters have by slides."""
    if not is_whole(number, 0, MAX_NEED):
        raise Unfit()
    return counted(window_machine(teller), number)[number]


def window_items(teller, rest, row):
    """Return the tuple of the items that the row's letters add, from the last one on, in the round."""
    tables, turn = turning(teller)
    _check_rest(turn, rest)
    moves, _ = least(teller)
    return _items_by(tables, turn, moves, rest, row)


def _check_rest(turn, rest):
    """Raise Unfit() if rest is no rest of this turn."""
    if not is_whole(rest, 0, turn[1] - 1):
        raise Unfit()


def _items_by(tables, turn, moves, rest, row):
    """Return the tuple of the items that the row's letters add in the round."""
    spot = turn[0] + rest
    action = tuple(range(len(moves)))
    items = []
    for letter in reversed(row):
        spot = _next_spots(turn, spot)[0][1]
        action = put_ahead(moves, action, letter)
        items.append(tables[spot][action[0]])
    return tuple(items)


def windows_for(teller, rest):
    """Return the Windows of a teller; Unfit() if rest is none, ahead of too many marks or places."""
    _check_rest(turns(teller), rest)
    return Windows(teller)


def window_place(teller, rest, row):
    """Return the number of the place to which the row's items lead from the start of this rest."""
    return windows_for(teller, rest).place_of(rest, row)
