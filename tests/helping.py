"""What the tests share: rows in order, drawn tellers, and slow reckonings beside the program's."""

import contextlib
import functools
import itertools
import random
import time
import unittest

from endkeepers.tellers import least

FOLLOWING = (((1, 0), (1, 2), (2, 2)), (0, 0, 1))
HOLDING = (((2, 0), (1, 1), (2, 2), (0, 3)), (0, 5, 1, 12))
LEAST_HOLDING = (((1, 0), (1, 1)), (0, 1))
BEGINS = (((1, 2), (1, 1), (2, 2)), (0, 1, 0))
ENDS = (((1, 0), (1, 0)), (0, 1))
FIFTH = (((1, 1), (2, 2), (3, 3), (4, 4), (5, 6), (5, 5), (6, 6)), (0, 0, 0, 0, 0, 1, 0))

WORDS = ("put left", "put right", "slide", "take left", "take right")
ENDS_OF_ROWS = ("put left", "put right", "take left", "take right")
# The seventeen books, by their subsets and not as the program finds them.
BOOKS = tuple(sorted(
    [book for many in range(5) for book in itertools.combinations(ENDS_OF_ROWS, many)] + [("slide",)]
))
UNDOING, QUEUE, WINDOW = ("put right", "take right"), ("put right", "take left"), ("slide",)
BARE, ALL_ENDS = ("take left", "take right"), ENDS_OF_ROWS

# Values that are no tuples, and values that are no strings.
NO_TUPLES = (
    None, True, False, 0, 1, -1, 10 ** 400, "", "row", "two\nlines", [], [0], [("take left",)], [[], [()]], {},
    {0: 1}, {"a": ("b",)}, {(0,): [1]},
)
NO_STRINGS = (
    None, True, False, 0, 1, -1, 10 ** 400, [], [0], ["row", "none"], {}, {0: 1}, {"0 tells 0": "row"}, (), (0,),
    ("0 tells 0",), (("slide",), ()),
)
TAKING_BOOKS = tuple(book for book in BOOKS if ("take left" in book or "take right" in book) and book != BARE)
RESTING_BOOKS = ((), ("put left",), ("put left", "put right"), ("put right",))
TOLD_BOOKS = tuple(book for book in BOOKS if book != BARE)
# Values that are no numbers, for arguments that have to be numbers from 0 on.
NO_NUMBERS = (
    None, True, False, -1, -10 ** 399, "", "0", "300", (), (0,), [], [0], {}, {0: 0}, ("need", 0), [[], ()],
)
# Values that are no rests of any teller.
NO_RESTS = tuple(value for value in NO_NUMBERS if value != -1) + (-1, 10 ** 399)
# Values that are no rows of letters of two kinds of at most 900 letters.
NO_PAPER_ROWS = (
    None, 0, True, "", "01", [], [0], {}, {0: 0}, (0,) * 901, (2,), (-1,), (0, True), (False,), (0, None), (0, (0,)),
    ("0",), ((),), (10 ** 400,),
)


def rows_in_order(many, longest):
    """All rows of at most so many letters, in the order of the document."""
    for length in range(longest + 1):
        for row in itertools.product(range(many), repeat=length):
            yield row


def ring(states, at, kinds=1):
    """A teller that goes round and tells 1 in one state."""
    moves = tuple(((state + 1) % states,) * kinds for state in range(states))
    return moves, tuple(int(state == at) for state in range(states))


def chain(states, kinds=1):
    """A teller that counts letters and stays at the end, where it tells 1."""
    moves = tuple((min(state + 1, states - 1),) * kinds for state in range(states))
    return moves, (0,) * (states - 1) + (1,)


def drawn_teller(draw, states, kinds, greatest):
    """A teller with drawn moves and numbers, perhaps with states that no row leads to."""
    moves = tuple(tuple(draw.randrange(states) for _ in range(kinds)) for _ in range(states))
    return moves, tuple(draw.randrange(greatest + 1) for _ in range(states))


def drawn_tellers(seed, times, states=4, kinds=3, greatest=2):
    """Drawn tellers of up to so many states and kinds."""
    draw = random.Random(seed)
    for _ in range(times):
        yield drawn_teller(draw, draw.randint(1, states), draw.randint(1, kinds), draw.randint(0, greatest))


def drawn_pairs(seed, times, states=4, kinds=3, greatest=2):
    """Pairs of drawn tellers of as many kinds."""
    draw = random.Random(seed)
    for _ in range(times):
        many = draw.randint(1, kinds)
        yield tuple(drawn_teller(draw, draw.randint(1, states), many, draw.randint(0, greatest)) for _ in range(2))


def spread(draw, teller):
    """A teller that tells the same, with states told twice, mixed, and some that nobody comes to."""
    moves, tells = teller
    copies = [(state, copy) for state in range(len(moves)) for copy in range(2)] + [(0, 2)]
    rest = copies[1:]
    draw.shuffle(rest)
    copies = copies[:1] + rest
    places = {copy: place for place, copy in enumerate(copies)}
    new_moves = tuple(
        tuple(places[(to, draw.randrange(2))] for to in moves[state]) for state, _ in copies
    )
    return new_moves, tuple(tells[state] for state, _ in copies)


def slow_told(teller, row):
    """What is told, letter by letter from the end of the row."""
    if not row:
        return teller[1][0]
    table = list(teller[1])
    for letter in reversed(row):
        table = [table[item[letter]] for item in teller[0]]
    return table[0]


def slow_least(teller):
    """The least teller by what is told behind rows, without a look at the states."""
    many, states = len(teller[0][0]), len(teller[0])
    tails = list(rows_in_order(many, states))

    def future(row):
        return tuple(slow_told(teller, row + tail) for tail in tails)

    numbers, firsts = {}, []
    for row in rows_in_order(many, states - 1):
        if future(row) not in numbers:
            numbers[future(row)] = len(firsts)
            firsts.append(row)
    moves = tuple(tuple(numbers[future(row + (letter,))] for letter in range(many)) for row in firsts)
    return moves, tuple(slow_told(teller, row) for row in firsts)


def slow_parting(one, other):
    """The first row that parts two tellers, by going through all that may be the first."""
    for row in rows_in_order(len(one[0][0]), len(one[0]) + len(other[0]) - 2):
        if slow_told(one, row) != slow_told(other, row):
            return row
    return None


def slow_after(row, deed):
    """The row behind a deed that can be done, letter by letter."""
    letters = list(row)
    if deed[0] in ("take left", "slide"):
        letters.pop(0)
    elif deed[0] == "take right":
        letters.pop()
    if deed[0] == "put left":
        letters.insert(0, deed[1])
    elif deed[0] in ("put right", "slide"):
        letters.append(deed[1])
    return tuple(letters)


def drawn_row(draw, many, length):
    """A drawn row of so many letters."""
    return tuple(draw.randrange(many) for _ in range(length))


def drawn_run(draw, book, many, longest, most):
    """A row and deeds of the book that can be done to it."""
    row = tuple(draw.randrange(many) for _ in range(draw.randint(0, longest)))
    length, deeds = len(row), []
    for _ in range(draw.randint(0, most)):
        words = [word for word in book if length > 0 or word in ("put left", "put right")]
        if words:
            word = draw.choice(words)
            length += {"put": 1, "take": -1, "slide": 0}[word.split()[0]]
            deeds.append((word,) if word.split()[0] == "take" else (word, draw.randrange(many)))
    return row, tuple(deeds)


least_once = functools.lru_cache(None)(least)


def states_from(teller, state, row):
    """The states of the least teller that a row leads through, from this one on."""
    moves = least_once(teller)[0]
    found = [state]
    for letter in row:
        found.append(moves[found[-1]][letter])
    return found


def slow_class(teller, book, row):
    """The class of a row by the puts of the book, from state to state, by the table of the document."""
    moves, tells = least_once(teller)
    ends = [states_from(teller, state, row)[-1] for state in range(len(moves))]
    if "put left" in book:
        return tuple(ends) if "put right" in book else tuple(tells[state] for state in ends)
    return ends[0] if "put right" in book else tells[ends[0]]


@functools.lru_cache(None)
def slow_agreement(teller, number):
    """For each state the least one from which the same is told behind all rows of so many letters."""
    moves, tells = least_once(teller)
    rows = list(itertools.product(range(len(moves[0])), repeat=number))
    futures = [[tells[states_from(teller, state, row)[-1]] for row in rows] for state in range(len(moves))]
    return tuple(futures.index(future) for future in futures)


def slow_item(teller, book, row):
    """The item that comes last in the history of a row by a book with a take, by its pieces and their classes."""
    if not {"take left", "take right"} <= set(book):
        return slow_class(teller, book, row)
    rightward = "put right" in book
    if {"put left", "put right"} <= set(book):
        return slow_class(teller, book, row[-1:]) if row else ()
    if not row:
        return (slow_class(teller, book, ()),)
    if rightward:
        pieces = [(row[i:-1], row[i:]) for i in range(len(row))]
    else:
        pieces = [(row[1:i], row[:i]) for i in range(1, len(row) + 1)]
    classes = {(slow_class(teller, book, here), slow_class(teller, book, there)) for here, there in pieces}
    return tuple(there for _, there in sorted(classes))


def slow_history(teller, book, row):
    """The history of a row, as the table of the document tells it."""
    length = len(row)
    if book == WINDOW:
        return tuple(
            slow_agreement(teller, k)[states_from(teller, 0, row[k:])[-1]] for k in range(length, -1, -1)
        )
    if not {"take left", "take right"} & set(book):
        return (slow_class(teller, book, row),)
    if "take left" not in book or ("take right" in book and "put right" in book):
        return tuple(slow_item(teller, book, row[:j]) for j in range(length + 1))
    return tuple(slow_item(teller, book, row[j:]) for j in range(length, -1, -1))


def slow_need(teller, book, number):
    """The number of unlike histories of all rows of so many letters."""
    rows = itertools.product(range(len(teller[0][0])), repeat=number)
    return len({slow_history(teller, book, row) for row in rows})


def slow_partings(teller, book, one, other, most):
    """The least number of deeds that tell two rows apart, by going through all deeds, to at most so many; or None."""
    many = len(teller[0][0])
    deeds = [
        (word, letter) for word in book for letter in (range(many) if word.startswith(("put", "slide")) else (None,))
    ]
    pairs, seen = [(one, other)], {(one, other)}
    for number in range(most + 1):
        behind = []
        for here, there in pairs:
            if slow_told(teller, here) != slow_told(teller, there):
                return number
            for deed in deeds if number < most else ():
                if here or deed[0].startswith("put"):
                    pair = slow_after(here, deed), slow_after(there, deed)
                    # Rows that are the same are never told apart again.
                    if pair[0] != pair[1] and pair not in seen:
                        seen.add(pair)
                        behind.append(pair)
        pairs = behind
    return None


def slow_turns(table, number):
    """(b, p) of a list of tables that goes round, with so many of them looked at."""
    for later in range(number):
        for first in range(later):
            if table[first] == table[later]:
                return first, later - first
    return None


def long_turning(told):
    """A teller of 21 states whose agreements go round only far out: b + p is 289 + told, for told from 9 to 13."""
    moves = [((i + 1) % 19, 1 if i == 18 else (i + 1) % 19, 20) for i in range(19)] + [(19, 19, 19), (19, 19, 19)]
    return tuple(moves), tuple(int(state == told) for state in range(20)) + (2,)


def far_lengths(begin):
    """A teller of 19 states, all telling unlike numbers, whose states behind rows of n letters go round far out.

    For begin 8, 9 and 10 the states behind all rows of n letters go round with b + p of 299, 300 and 301.
    """
    moves = [((i + 1) % 19, begin + 3 if i == begin else (i + 1) % 19) for i in range(19)]
    return tuple(moves), tuple(range(19))


class Case(unittest.TestCase):
    """Assertions that know that True is not 1, and that a list is no tuple."""

    def assertSame(self, found, wanted):
        """Same values, of the same kinds all through."""
        self.assertEqual(repr(found), repr(wanted))

    def assertRaised(self, error, fields, call, *args, **more):
        """The call raises just this class of error, with these fields."""
        with self.assertRaises(ValueError) as caught:
            call(*args, **more)
        self.assertIs(type(caught.exception), error)
        self.assertSame(vars(caught.exception), fields)

    @contextlib.contextmanager
    def assertQuick(self, seconds):
        """What stands below takes no longer than so many seconds, which is far more than it should."""
        begun = time.monotonic()
        yield
        self.assertLess(time.monotonic() - begun, seconds)
