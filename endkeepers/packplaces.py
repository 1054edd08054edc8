"""Places of packs: one number by which, beside the length, a row's pack is told."""

from endkeepers.bounds import MAX_NEED
from endkeepers.common import is_whole
from endkeepers.errors import TooMany, Unfit
from endkeepers.hands import Hands, first_way
from endkeepers.packs import length_of


def pack_place(teller, book, some):
    """Return how many histories of rows of as many letters are less than that of the rows of the pack."""
    hands = Hands(teller, book)
    length = length_of(some)
    if length > MAX_NEED:
        raise TooMany(MAX_NEED)
    many = _many_ahead(hands.steps, length)
    lots = hands.lots_of_pack(some)
    return sum([
        _less(hands.steps[here], there, many[length - 1 - place])
        for place, (here, there) in enumerate(zip(lots, lots[1:]))
    ])


def _many_ahead(steps, last):
    """Return the list that has, for each number of steps to last, the list of how many such ways lead from each lot."""
    found = [[1] * len(steps)]
    for _ in range(last):
        found.append([sum([found[-1][there] for _, there in pairs]) for pairs in steps])
    return found


def _less(pairs, lot, many):
    """Return how many ways begin with a step that stands ahead of the one to the lot, many leading on from each."""
    found = 0
    for _, there in pairs:
        # The steps stand by ascending items, and two of them never lead to one lot.
        if there == lot:
            break
        found += many[there]
    return found


def pack_at(teller, book, length, number):
    """Return the pack of so many letters of which this number is the place."""
    hands = Hands(teller, book)
    if not is_whole(length, 0, MAX_NEED):
        raise Unfit()
    many = _many_ahead(hands.steps, length)
    if not is_whole(number, 0, many[length][0] - 1):
        raise Unfit()
    way = first_way(hands)
    for left in range(length - 1, -1, -1):
        pairs = hands.steps[way.lot]
        # The last step with no more ways ahead of it than are still to be left behind.
        lot = [there for _, there in pairs if _less(pairs, there, many[left]) <= number][-1]
        number -= _less(pairs, lot, many[left])
        way.go(lot)
    return way.told()
