"""Hands: the lots of a one-take book by which packs are told, and the ways through them."""

from endkeepers.classes import class_of
from endkeepers.common import branching_mark, rings_of
from endkeepers.counting import lots_of
from endkeepers.errors import Unfit


class Hands:
    """The lots of a teller and a one-take book, in rings or alone, as packs tell of them.

    rings has, for each lot, the first lot of its ring, or None if it is a lone one. labels
    has the class of each lot, and onward, for each lot, a dict of the lots that come by labels.
    """

    def __init__(self, teller, book):
        if ("take left" in book) == ("take right" in book):
            raise Unfit()
        self.lots = lots_of(teller, book)
        self.steps = self.lots.steps
        self.rings = rings_of(self.steps)
        if branching_mark(self.steps, self.rings) is not None:
            raise Unfit()
        names = self.lots.labels
        self.onward = [{names[item]: there for item, there in pairs} for pairs in self.steps]
        come = {there: label for labels in self.onward for label, there in labels.items()}
        # Perhaps no step leads to the lot of the empty row; to each other one some step does.
        self.labels = [class_of(teller, book, ())] + [come[lot] for lot in range(1, len(self.steps))]

    def of_one_ring(self, one, other):
        """Tell whether two lots lie in one ring."""
        return self.rings[one] is not None and self.rings[one] == self.rings[other]

    def around(self, lot):
        """Return the list of the lots of a block, from its first one on, until it comes again; a lone lot alone."""
        found = [lot]
        there = self._next_around(lot)
        while there is not None and there != lot:
            found.append(there)
            there = self._next_around(there)
        return found

    def _next_around(self, lot):
        """Return the lot that comes next in the ring of a lot, None for a lone one."""
        near = [there for _, there in self.steps[lot] if self.of_one_ring(lot, there)]
        return near[0] if near else None

    def last_of(self, block):
        """Return the last lot of a block."""
        lot, steps = block
        around = self.around(lot)
        return around[steps % len(around)]

    def lots_of_pack(self, some):
        """Return the list of the lots through which the rows lead of which some is the pack."""
        found = []
        for lot, steps in some:
            around = self.around(lot)
            found.extend([around[place % len(around)] for place in range(steps + 1)])
        return found


class Way:
    """A way through lots, told by its blocks, that begins with a pack and goes on."""

    def __init__(self, hands, some):
        self.hands = hands
        self.blocks = [[lot, steps] for lot, steps in some]
        self.lot = hands.last_of(some[-1])

    def go(self, lot):
        """Go on to a lot to which a step leads."""
        if self.hands.of_one_ring(self.lot, lot):
            self.blocks[-1][1] += 1
        else:
            self.blocks.append([lot, 0])
        self.lot = lot

    def go_by(self, label):
        """Go on to the lot that comes by the label."""
        self.go(self.hands.onward[self.lot][label])

    def go_round(self, steps):
        """Go on, in the ring of the last lot, by so many steps that lead to this lot again."""
        self.blocks[-1][1] += steps

    def told(self):
        """Return the pack of the way."""
        return tuple([(lot, steps) for lot, steps in self.blocks])


def first_way(hands):
    """Return the way of the empty row."""
    return Way(hands, ((0, 0),))
