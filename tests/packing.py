"""What the tests of packs share: slow packs, made lot by lot, and what nothing can be packed of."""

import functools
import random

from endkeepers.books import grows_left
from endkeepers.counting import lot_of, ways
from endkeepers.errors import TooMany
from endkeepers.grades import grade
from endkeepers.tellers import kinds

from tests.helping import BOOKS, drawn_row

ONE_TAKE_BOOKS = tuple(book for book in BOOKS if ("take left" in book) != ("take right" in book))
UNFIT_BOOKS = tuple(book for book in BOOKS if book not in ONE_TAKE_BOOKS)


def climbing_tellers(seed, times, most=8, kinds_most=3):
    """Drawn tellers whose states lead on to later ones, to themselves, or around in short rings."""
    draw = random.Random(seed)
    for _ in range(times):
        states, many = draw.randint(3, most), draw.randint(1, kinds_most)
        # States lie in rings of one, two or three, one behind another; one letter at most goes round.
        around, first = {}, 0
        while first < states:
            length = min(draw.choice((1, 1, 2, 3)), states - first)
            for state in range(first, first + length):
                around[state] = (first + (state - first + 1) % length, first + length)
            first += length
        moves = []
        for state in range(states):
            onward, outward = around[state]
            there = [draw.randint(min(outward, states - 1), min(outward + 2, states - 1)) for _ in range(many)]
            if draw.random() < 0.7 or outward >= states:
                there[draw.randrange(many)] = onward
            if outward >= states:
                there = [onward] * many
            moves.append(tuple(there))
        yield tuple(moves), tuple(draw.randrange(4) for _ in range(states))


def packed(tellers, books=ONE_TAKE_BOOKS):
    """The pairs of a teller and a one-take book for which packs are told."""
    for teller in tellers:
        for book in books:
            try:
                if grade(teller, book) is not None:
                    yield teller, book
            except TooMany:
                continue


@functools.lru_cache(None)
def slow_ahead(teller, book):
    """For each lot the set of the lots that are come to from it by one step or more."""
    steps = [{there for _, there in pairs} for pairs in ways(teller, book)]
    ahead = [set(line) for line in steps]
    grown = True
    while grown:
        grown = False
        for line in ahead:
            more = set().union(*(steps[lot] for lot in line)) - line
            line |= more
            grown = grown or bool(more)
    return ahead


def slow_one_ring(teller, book, one, other):
    """Whether each of two lots is come to from the other."""
    ahead = slow_ahead(teller, book)
    return one in ahead[other] and other in ahead[one]


def slow_lone(teller, book, lot):
    """Whether a lot lies in no ring."""
    return lot not in slow_ahead(teller, book)[lot]


def slow_blocks(teller, book, lots):
    """The pack of a way through these lots."""
    blocks = [(lots[0], 0)]
    for here, there in zip(lots, lots[1:]):
        if slow_one_ring(teller, book, here, there):
            blocks[-1] = (blocks[-1][0], blocks[-1][1] + 1)
        else:
            blocks.append((there, 0))
    return tuple(blocks)


def slow_pack(teller, book, row):
    """The pack of a row, by the lots of its beginnings, or of its ends."""
    pieces = [row[len(row) - n:] if grows_left(book) else row[:n] for n in range(len(row) + 1)]
    return slow_blocks(teller, book, [lot_of(teller, book, piece) for piece in pieces])


def slow_lots(teller, book, some):
    """The lots through which a pack leads, one by one."""
    steps = ways(teller, book)
    found = []
    for lot, many in some:
        found.append(lot)
        for _ in range(many):
            found.append(next(there for _, there in steps[found[-1]] if slow_one_ring(teller, book, there, lot)))
    return found


def drawn_pack(draw, teller, book, longest):
    """A pack of drawn blocks, of any of which there may be up to so many steps."""
    steps = ways(teller, book)
    lots, here = [0], 0
    while True:
        blocks = slow_blocks(teller, book, lots)
        if not slow_lone(teller, book, here):
            for _ in range(draw.choice((0, 0, 1, draw.randint(0, longest)))):
                here = next(there for _, there in steps[here] if slow_one_ring(teller, book, there, here))
                lots.append(here)
            blocks = slow_blocks(teller, book, lots)
        outward = [there for _, there in steps[here] if not slow_one_ring(teller, book, here, there)]
        if not outward or draw.random() < 0.15:
            return blocks
        here = draw.choice(outward)
        lots.append(here)


def drawn_rows(draw, teller, lengths):
    """Drawn rows of these lengths."""
    return [drawn_row(draw, kinds(teller), length) for length in lengths]
