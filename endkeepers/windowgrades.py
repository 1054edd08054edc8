"""Grades of windows: how fast the need grows, for each rest by itself."""

from endkeepers.common import branching_marks, reached, rings_ahead, rings_of
from endkeepers.windows import Windows, windows_for


def window_grades(teller):
    """Return (b, grades), the grades being those of the rests: None for a share, d for the power d."""
    windows = Windows(teller)
    start, length = windows.turn
    rings = rings_of(windows.on)
    ahead = rings_ahead(windows.on, rings)
    branching = branching_marks(windows.on, rings)
    reach = reached(windows.on)

    def grade_from(place):
        if [mark for mark in branching if reach[place] >> mark & 1]:
            return None
        return max([ahead[ring] for ring in ahead if reach[place] >> ring & 1]) - 1

    return start, tuple([grade_from(start + rest) for rest in range(length)])


def window_alike(teller, rest, one, other):
    """Tell whether the same items follow two rows, in windows of the rest."""
    return windows_for(teller, rest).alike(rest, one, other)
