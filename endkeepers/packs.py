"""Packs: a few numbers by which a keeper can go on, if the need grows as a power."""

from endkeepers.common import is_integer, rings_ahead
from endkeepers.hands import Hands, first_way
from endkeepers.tellers import least


def pack(teller, book, row):
    """Return the pack of the row."""
    hands = Hands(teller, book)
    way = first_way(hands)
    for item in hands.lots.items_of(row):
        way.go_by(hands.lots.labels[item])
    return way.told()


def width(teller, book):
    """Return the greatest number of blocks of a pack, for rows of all lengths."""
    hands = Hands(teller, book)
    heads = [lot if ring is None else ring for lot, ring in enumerate(hands.rings)]
    return rings_ahead(hands.steps, heads)[0]


def pack_error(teller, book, value):
    """Return None if value is the pack of some row, otherwise the first thing that is wrong with it."""
    hands = Hands(teller, book)
    if not isinstance(value, tuple) or len(value) == 0 or not all([_is_built_as_block(item) for item in value]):
        return "form"
    ahead = None
    for place, block in enumerate(value):
        if not _follows(hands, ahead, block):
            return ("block", place)
        ahead = hands.last_of(block)
    return None


def _is_built_as_block(value):
    """Tell whether value is a pair of integers, both 0 or more."""
    return isinstance(value, tuple) and len(value) == 2 and all([is_integer(part) and part >= 0 for part in value])


def _follows(hands, ahead, block):
    """Tell whether a block can follow one with this last lot; or begin a pack, if ahead is None."""
    lot, steps = block
    if lot >= len(hands.rings) or (steps > 0 and hands.rings[lot] is None):
        return False
    if ahead is None:
        return lot == 0
    return lot in [there for _, there in hands.steps[ahead]] and not hands.of_one_ring(ahead, lot)


def length_of(some):
    """Return how many letters the rows have of which some is the pack."""
    return sum([steps for _, steps in some]) + len(some) - 1


def pack_tells(teller, book, some):
    """Return what the teller tells of the rows of which some is the pack."""
    hands = Hands(teller, book)
    label = hands.labels[hands.last_of(some[-1])]
    first = label[0] if isinstance(label, tuple) else label
    # By a put at the right a class has states, otherwise numbers told.
    return least(teller)[1][first] if "put right" in book else first
