"""Window papers: rows that show what must be kept of windows of a rest."""

from endkeepers.forkpapers import fork_fault, fork_ways
from endkeepers.ringpapers import ring_ways, rings_fault
from endkeepers.tellers import kinds
from endkeepers.windows import windows_for


def window_fork(teller, rest):
    """Return any fork of the rest, or None if there is none."""
    windows = windows_for(teller, rest)
    return _paper(windows, rest, fork_ways(windows.steps_behind(rest)))


def _paper(windows, rest, ways):
    """Return the tuple of rows that add these ways' items, or None if there are no ways."""
    return None if ways is None else tuple([windows.row_with(rest, items) for items in ways])


def window_fork_error(teller, rest, value):
    """Return None if value is a fork of the rest, otherwise what is wrong first."""
    windows = windows_for(teller, rest)
    items_of = lambda row: windows.items_of(rest, row)
    alike = lambda one, other: windows.alike(rest, one, other)
    return fork_fault(kinds(teller), value, items_of, alike)


def window_rings(teller, rest):
    """Return any rings of the rest with as many pairs as its grade tells, or None if it tells no number."""
    windows = windows_for(teller, rest)
    return _paper(windows, rest, ring_ways(windows.steps_behind(rest)))


def window_rings_error(teller, rest, value):
    """Return None if value are rings of the rest, otherwise what is wrong first."""
    windows = windows_for(teller, rest)
    items_of = lambda row: windows.items_of(rest, row)
    alike = lambda one, other: windows.alike(rest, one, other)
    return rings_fault(kinds(teller), value, items_of, alike)
