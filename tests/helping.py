"""What the tests share: rows in order, drawn tellers, and slow reckonings beside the program's."""

import itertools
import random
import unittest

FOLLOWING = (((1, 0), (1, 2), (2, 2)), (0, 0, 1))
HOLDING = (((2, 0), (1, 1), (2, 2), (0, 3)), (0, 5, 1, 12))
LEAST_HOLDING = (((1, 0), (1, 1)), (0, 1))
BEGINS = (((1, 2), (1, 1), (2, 2)), (0, 1, 0))
ENDS = (((1, 0), (1, 0)), (0, 1))
FIFTH = (((1, 1), (2, 2), (3, 3), (4, 4), (5, 6), (5, 5), (6, 6)), (0, 0, 0, 0, 0, 1, 0))

WORDS = ("put left", "put right", "slide", "take left", "take right")
ENDS_OF_ROWS = ("put left", "put right", "take left", "take right")
# The seventeen books, by their subsets and not as the program finds them.
BOOKS = tuple(sorted(
    [book for many in range(5) for book in itertools.combinations(ENDS_OF_ROWS, many)] + [("slide",)]
))
UNDOING, QUEUE, WINDOW = ("put right", "take right"), ("put right", "take left"), ("slide",)
BARE, ALL_ENDS = ("take left", "take right"), ENDS_OF_ROWS

# Values that are no tuples, and values that are no strings.
NO_TUPLES = (
    None, True, False, 0, 1, -1, 10 ** 400, "", "row", "two\nlines", [], [0], [("take left",)], [[], [()]], {},
    {0: 1}, {"a": ("b",)}, {(0,): [1]},
)
NO_STRINGS = (
    None, True, False, 0, 1, -1, 10 ** 400, [], [0], ["row", "none"], {}, {0: 1}, {"0 tells 0": "row"}, (), (0,),
    ("0 tells 0",), (("slide",), ()),
)


def rows_in_order(many, longest):
    """All rows of at most so many letters, in the order of the document."""
    for length in range(longest + 1):
        for row in itertools.product(range(many), repeat=length):
            yield row


def ring(states, at, kinds=1):
    """A teller that goes round and tells 1 in one state."""
    moves = tuple(((state + 1) % states,) * kinds for state in range(states))
    return moves, tuple(int(state == at) for state in range(states))


def chain(states, kinds=1):
    """A teller that counts letters and stays at the end, where it tells 1."""
    moves = tuple((min(state + 1, states - 1),) * kinds for state in range(states))
    return moves, (0,) * (states - 1) + (1,)


def drawn_teller(draw, states, kinds, greatest):
    """A teller with drawn moves and numbers, perhaps with states that no row leads to."""
    moves = tuple(tuple(draw.randrange(states) for _ in range(kinds)) for _ in range(states))
    return moves, tuple(draw.randrange(greatest + 1) for _ in range(states))


def drawn_tellers(seed, times, states=4, kinds=3, greatest=2):
    """Drawn tellers of up to so many states and kinds."""
    draw = random.Random(seed)
    for _ in range(times):
        yield drawn_teller(draw, draw.randint(1, states), draw.randint(1, kinds), draw.randint(0, greatest))


def drawn_pairs(seed, times, states=4, kinds=3, greatest=2):
    """Pairs of drawn tellers of as many kinds."""
    draw = random.Random(seed)
    for _ in range(times):
        many = draw.randint(1, kinds)
        yield tuple(drawn_teller(draw, draw.randint(1, states), many, draw.randint(0, greatest)) for _ in range(2))


def spread(draw, teller):
    """A teller that tells the same, with states told twice, mixed, and some that nobody comes to."""
    moves, tells = teller
    copies = [(state, copy) for state in range(len(moves)) for copy in range(2)] + [(0, 2)]
    rest = copies[1:]
    draw.shuffle(rest)
    copies = copies[:1] + rest
    places = {copy: place for place, copy in enumerate(copies)}
    new_moves = tuple(
        tuple(places[(to, draw.randrange(2))] for to in moves[state]) for state, _ in copies
    )
    return new_moves, tuple(tells[state] for state, _ in copies)


def slow_told(teller, row):
    """What is told, letter by letter from the end of the row."""
    if not row:
        return teller[1][0]
    table = list(teller[1])
    for letter in reversed(row):
        table = [table[item[letter]] for item in teller[0]]
    return table[0]


def slow_least(teller):
    """The least teller by what is told behind rows, without a look at the states."""
    many, states = len(teller[0][0]), len(teller[0])
    tails = list(rows_in_order(many, states))

    def future(row):
        return tuple(slow_told(teller, row + tail) for tail in tails)

    numbers, firsts = {}, []
    for row in rows_in_order(many, states - 1):
        if future(row) not in numbers:
            numbers[future(row)] = len(firsts)
            firsts.append(row)
    moves = tuple(tuple(numbers[future(row + (letter,))] for letter in range(many)) for row in firsts)
    return moves, tuple(slow_told(teller, row) for row in firsts)


def slow_parting(one, other):
    """The first row that parts two tellers, by going through all that may be the first."""
    for row in rows_in_order(len(one[0][0]), len(one[0]) + len(other[0]) - 2):
        if slow_told(one, row) != slow_told(other, row):
            return row
    return None


def slow_after(row, deed):
    """The row behind a deed that can be done, letter by letter."""
    letters = list(row)
    if deed[0] in ("take left", "slide"):
        letters.pop(0)
    elif deed[0] == "take right":
        letters.pop()
    if deed[0] == "put left":
        letters.insert(0, deed[1])
    elif deed[0] in ("put right", "slide"):
        letters.append(deed[1])
    return tuple(letters)


def drawn_run(draw, book, many, longest, most):
    """A row and deeds of the book that can be done to it."""
    row = tuple(draw.randrange(many) for _ in range(draw.randint(0, longest)))
    length, deeds = len(row), []
    for _ in range(draw.randint(0, most)):
        words = [word for word in book if length > 0 or word in ("put left", "put right")]
        if words:
            word = draw.choice(words)
            length += {"put": 1, "take": -1, "slide": 0}[word.split()[0]]
            deeds.append((word,) if word.split()[0] == "take" else (word, draw.randrange(many)))
    return row, tuple(deeds)


class Case(unittest.TestCase):
    """Assertions that know that True is not 1, and that a list is no tuple."""

    def assertSame(self, found, wanted):
        """Same values, of the same kinds all through."""
        self.assertEqual(repr(found), repr(wanted))

    def assertRaised(self, error, fields, call, *args, **more):
        """The call raises just this class of error, with these fields."""
        with self.assertRaises(ValueError) as caught:
            call(*args, **more)
        self.assertIs(type(caught.exception), error)
        self.assertSame(vars(caught.exception), fields)
