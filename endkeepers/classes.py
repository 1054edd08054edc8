"""Classes: what a row can still be, by the letters that can be put around it."""

from endkeepers.bounds import MAX_COUNTING, MAX_PAPER
from endkeepers.common import is_whole, numbered
from endkeepers.errors import TooMany, Unfit
from endkeepers.tellers import kinds, least, told


def state_of(teller, row):
    """Return the state to which the least teller comes by the row."""
    moves, _ = least(teller)
    return state_behind(moves, 0, row)


def told_from(teller, row):
    """Return the tuple of what is told behind the row, if the least teller begins in each of its states."""
    moves, tells = least(teller)
    return tuple([tells[state_behind(moves, state, row)] for state in range(len(moves))])


def action_of(teller, row):
    """Return the tuple of the states to which the least teller comes by the row from each of its states."""
    moves, _ = least(teller)
    return tuple([state_behind(moves, state, row) for state in range(len(moves))])


def state_behind(moves, state, row):
    """Return the state to which the row leads from a state."""
    for letter in row:
        state = moves[state][letter]
    return state


def class_of(teller, book, row):
    """Return the class of the row by the puts of the book; Unfit() for ("slide",)."""
    if "slide" in book:
        raise Unfit()
    if "put left" in book:
        return action_of(teller, row) if "put right" in book else told_from(teller, row)
    return state_of(teller, row) if "put right" in book else told(teller, row)


def letters_alike(teller):
    """Return the ascending tuple of the lots of letters that act alike."""
    numbers = _letter_lots(teller)
    return tuple([
        tuple([letter for letter, number in enumerate(numbers) if number == lot])
        for lot in range(max(numbers) + 1)
    ])


def _letter_lots(teller):
    """Return for each letter the number of its lot: those that act alike."""
    return numbered([action_of(teller, (letter,)) for letter in range(kinds(teller))])


def thinned(teller):
    """Return the least teller of one letter for each lot of letters alike, and the lot of each letter."""
    moves, tells = least(teller)
    kept = [lot[0] for lot in letters_alike(teller)]
    fewer = tuple([tuple([item[letter] for letter in kept]) for item in moves])
    return least((fewer, tells)), tuple(_letter_lots(teller))


def firsts_of(marks):
    """Return the tuple with, for each place, the first place with the same mark."""
    places = {}
    return tuple([places.setdefault(mark, place) for place, mark in enumerate(marks)])


def agreement(teller, number):
    """Return for each state the least one that tells the same behind each row of so many letters."""
    if not is_whole(number, 0, MAX_PAPER):
        raise Unfit()
    return agreements(teller, number)[number]


def agreements(teller, last):
    """Return the list of the agreements at the numbers 0 to last."""
    moves, tells = least(teller)
    found = [firsts_of(tells)]
    for _ in range(last):
        found.append(_agreement_ahead(moves, found[-1]))
    return found


def _agreement_ahead(moves, table):
    """Return the agreement at one letter more: each letter leads to states that agreed."""
    return firsts_of([tuple([table[there] for there in item]) for item in moves])


def turns(teller):
    """Return (b, p): behind b the agreements go round by p."""
    _, turn = turning(teller)
    return turn


def turning(teller):
    """Return the list of the unlike agreements, b + p of them, and (b, p)."""
    moves, tells = least(teller)
    table = firsts_of(tells)
    places = {}
    # Each agreement gives the next one, so the first one that comes again closes the round.
    while table not in places:
        if len(places) == MAX_COUNTING:
            raise TooMany(MAX_COUNTING)
        places[table] = len(places)
        table = _agreement_ahead(moves, table)
    return list(places), (places[table], len(places) - places[table])
