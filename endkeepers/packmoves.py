"""What deeds make of packs: a keeper goes on without the row."""

from endkeepers.errors import Refused
from endkeepers.hands import Hands, Way, first_way
from endkeepers.histories import put_ahead, put_behind
from endkeepers.moving import deed_error
from endkeepers.packs import length_of
from endkeepers.tellers import kinds, least


def pack_after(teller, book, some, deed):
    """Return the pack of the rows behind a deed; Refused(word) if it cannot be done."""
    hands = Hands(teller, book)
    # Whether a deed can be done hangs on whether there are letters, not on which.
    row = () if length_of(some) == 0 else (0,)
    wrong = deed_error(book, kinds(teller), row, deed)
    if wrong is not None:
        raise Refused(wrong)
    if deed[0] in ("take left", "take right"):
        return _shorter(some)
    moves, _ = least(teller)
    turned = lambda label: _turned(moves, deed, label)
    if ("take left" in book) == (deed[0] == "put left"):
        way = Way(hands, some)
        way.go_by(turned(hands.labels[way.lot]))
        return way.told()
    way = first_way(hands)
    for lot, steps in some:
        around = hands.around(lot)
        _follow(way, [turned(hands.labels[there]) for there in around], steps + 1)
    return way.told()


def _shorter(some):
    """Return the pack without the last lot."""
    lot, steps = some[-1]
    return some[:-1] if steps == 0 else some[:-1] + ((lot, steps - 1),)


def _turned(moves, deed, label):
    """Return what a put makes of the class of a row."""
    word, letter = deed
    if word == "put left":
        return put_ahead(moves, label, letter)
    if isinstance(label, tuple):
        return put_behind(moves, label, letter)
    return moves[label][letter]


def _follow(way, labels, number):
    """Go on by so many labels, which come round and round."""
    gone = 0
    # How many labels were gone when the next label and the lot stood so.
    seen = {}
    while gone < number:
        here = (gone % len(labels), way.lot)
        if here in seen:
            # The way is where it was, so it has stayed in a ring, and goes round like this as long as labels come.
            back = gone - seen[here]
            leap = (number - gone) // back * back
            way.go_round(leap)
            gone += leap
            seen = {}
        else:
            seen[here] = gone
            way.go_by(labels[here[0]])
            gone += 1
