"""[I4]: what deeds make of packs."""

import itertools
import random

from endkeepers.classes import class_of
from endkeepers.counting import ways
from endkeepers.errors import Refused, TooMany, Unfit
from endkeepers.grades import grade
from endkeepers.knowntellers import known_teller
from endkeepers.moving import after, deed_error, deeds_of, open_deeds
from endkeepers.packmoves import pack_after
from endkeepers.packs import length_of, pack, pack_error, pack_tells
from endkeepers.tellers import kinds, least

from tests.edges import BOTH_301, LOTS_300, LOTS_301, MARKS_300, MARKS_301
from tests.helping import (
    ENDS, FOLLOWING, NO_TUPLES, QUEUE, UNDOING, Case, chain, drawn_row, drawn_tellers, ring, rows_in_order,
)
from tests.packing import (
    ONE_TAKE_BOOKS, UNFIT_BOOKS, climbing_tellers, drawn_pack, drawn_rows, packed, slow_blocks, slow_lots,
)

NEAR, PARITY = known_teller("next", 2), known_teller("parity", 2)
HUGE = ((0, 10 ** 30), (1, 0), (2, 5))
LONG = ((0, 0), (2, 0), (4, 10 ** 30), (3, 2))
# Two lone lots, a ring of three, and a ring of one that is left nowhere.
AROUND = (((1, 1), (2, 2), (3, 3), (4, 4), (2, 5), (5, 5)), (0, 1, 2, 3, 4, 5))


def slow_labels(teller, book):
    """For each lot its label, that of the empty row for the lot 0."""
    labels = {0: class_of(teller, book, ())}
    for pairs in ways(teller, book):
        for label, there in pairs:
            labels[there] = label
    return labels


def slow_turned(teller, deed, label):
    """What a put makes of a label."""
    moves = least(teller)[0]
    word, letter = deed
    if word == "put left":
        return tuple(label[moves[q][letter]] for q in range(len(moves)))
    if isinstance(label, tuple):
        return tuple(moves[q][letter] for q in label)
    return moves[label][letter]


def slow_after_put(teller, book, some, deed):
    """The pack behind a put, lot by lot."""
    labels = slow_labels(teller, book)
    steps = [dict(pairs) for pairs in ways(teller, book)]
    lots = slow_lots(teller, book, some)
    if deed[0].split()[1] == ("left" if "take left" in book else "right"):
        lots.append(steps[lots[-1]][slow_turned(teller, deed, labels[lots[-1]])])
        return slow_blocks(teller, book, lots)
    found = [0]
    for lot in lots:
        found.append(steps[found[-1]][slow_turned(teller, deed, labels[lot])])
    return slow_blocks(teller, book, found)


class TestPackAfter(Case):
    def test_examples(self):
        self.assertSame(pack_after(NEAR, UNDOING, HUGE, ("put right", 0)), ((0, 10 ** 30), (1, 0), (2, 6)))
        self.assertSame(pack_after(NEAR, UNDOING, HUGE[:2], ("take right",)), ((0, 10 ** 30),))
        self.assertSame(
            pack_after(NEAR, QUEUE, LONG, ("put right", 0)), ((0, 0), (2, 0), (4, 10 ** 30 + 1), (3, 2)),
        )
        self.assertSame(pack_after(NEAR, QUEUE, LONG, ("put right", 1)), ((0, 0), (1, 0), (3, 10 ** 30 + 4)))
        self.assertRaised(Refused, {"word": "empty"}, pack_after, NEAR, QUEUE, ((0, 0),), ("take left",))
        self.assertRaised(Refused, {"word": "book"}, pack_after, NEAR, QUEUE, LONG, ("put left", 0))

    def test_beside_the_row_behind_the_deed(self):
        draw = random.Random(720)
        tried = {}
        tellers = [NEAR, AROUND, known_teller("sorted", 3), known_teller("count", 2), ring(6, 1, 2), chain(5, 2)]
        tellers += list(drawn_tellers(721, 25, 5, 3, 2)) + list(climbing_tellers(722, 30))
        for teller, book in packed(tellers):
            rows = list(rows_in_order(kinds(teller), 1)) + drawn_rows(draw, teller, (2, 3, 5, 8, 30))
            for row in rows:
                some = pack(teller, book, row)
                for deed in open_deeds(book, kinds(teller), row):
                    tried[(book, deed[0])] = True
                    behind = after(book, kinds(teller), row, deed)
                    self.assertSame(pack_after(teller, book, some, deed), pack(teller, book, behind))
        self.assertEqual(set(tried), {(book, word) for book in ONE_TAKE_BOOKS for word in book})

    def test_runs_of_deeds(self):
        draw = random.Random(723)
        for teller, book in packed([NEAR, AROUND, *climbing_tellers(724, 12)]):
            row = drawn_row(draw, kinds(teller), 5)
            some = pack(teller, book, row)
            for _ in range(30):
                near = open_deeds(book, kinds(teller), row)
                if near:
                    deed = draw.choice(near)
                    row, some = after(book, kinds(teller), row, deed), pack_after(teller, book, some, deed)
            self.assertSame(some, pack(teller, book, row))

    def test_drawn_packs_lot_by_lot(self):
        draw = random.Random(725)
        tried = {}
        for teller, book in packed(list(drawn_tellers(726, 40, 5, 3, 2)) + list(climbing_tellers(727, 40))):
            for longest in (3, 40, 700):
                some = drawn_pack(draw, teller, book, longest)
                self.assertSame(pack_error(teller, book, some), None)
                for deed in deeds_of(book, kinds(teller)):
                    if deed[0].startswith("put"):
                        tried[(book, deed[0])] = True
                        found = pack_after(teller, book, some, deed)
                        self.assertSame(found, slow_after_put(teller, book, some, deed))
        self.assertEqual(len(tried), sum(len(book) - 1 for book in ONE_TAKE_BOOKS))

    def test_steps_of_any_size(self):
        # Beyond some rounds, more whole rounds go into one block behind the deed.
        draw = random.Random(728)
        tried = {}
        tellers = [NEAR, AROUND] + list(drawn_tellers(729, 15, 5, 3, 2)) + list(climbing_tellers(730, 15))
        for teller, book in packed(tellers):
            some = drawn_pack(draw, teller, book, 5)
            wide = [place for place, (lot, steps) in enumerate(some) if steps > 0]
            if not wide:
                continue
            place = draw.choice(wide)
            lot, steps = some[place]
            # Every round of every length up to 7 divides 420, and a few of 420 steps are more than lots can be.
            near = some[:place] + ((lot, steps + 420 * 4),) + some[place + 1:]
            for much in (420 * 10 ** 20, 420 * (10 ** 30 + 1), 420 * 10 ** 396):
                far = some[:place] + ((lot, steps + 420 * 4 + much),) + some[place + 1:]
                self.assertSame(pack_error(teller, book, far), pack_error(teller, book, near))
                for deed in deeds_of(book, kinds(teller)):
                    if deed[0].startswith("take"):
                        continue
                    left = pack_after(teller, book, near, deed)
                    right = pack_after(teller, book, far, deed)
                    self.assertEqual([lot for lot, _ in left], [lot for lot, _ in right])
                    more = [b - a for (_, a), (_, b) in zip(left, right)]
                    self.assertSame(sorted(more), [0] * (len(left) - 1) + [much])
                    if much == 420 * 10 ** 20 and deed[1] == 0:
                        self.assertSame(left, slow_after_put(teller, book, near, deed))
                    self.assertSame(length_of(right), length_of(far) + 1)
                    tried[(book, deed[0])] = True
        self.assertEqual(len(tried), 8)

    def test_long_rounds(self):
        # Each letter at the far end turns all labels, and the way goes round as before.
        for teller in (ring(7, 2, 2), ring(24, 5, 3), ring(23, 5, 1)):
            for book in ONE_TAKE_BOOKS:
                if grade(teller, book) is None:
                    continue
                for steps in (10 ** 30, 10 ** 30 + 1, 10 ** 20):
                    some = ((0, steps),)
                    if pack_error(teller, book, some) is None:
                        for deed in deeds_of(book, kinds(teller)):
                            found = pack_after(teller, book, some, deed)
                            wanted = steps + (1 if deed[0].startswith("put") else -1)
                            self.assertSame(found, ((0, wanted),))

    def test_takes(self):
        for book, deed in ((UNDOING, ("take right",)), (QUEUE, ("take left",))):
            for some in (HUGE, LONG, ((0, 1),), ((0, 0), (2, 0)), ((0, 0), (2, 0), (4, 0))):
                if pack_error(NEAR, book, some) is None:
                    lot, steps = some[-1]
                    wanted = some[:-1] + (((lot, steps - 1),) if steps else ())
                    self.assertSame(pack_after(NEAR, book, some, deed), wanted)
        some = ((0, 0), (1, 0), (2, 10 ** 400))
        self.assertSame(pack_after(AROUND, UNDOING, some, ("take right",)), ((0, 0), (1, 0), (2, 10 ** 400 - 1)))
        self.assertSame(pack_after(AROUND, UNDOING, some[:2] + ((2, 0),), ("take right",)), some[:2])
        self.assertSame(pack_after(AROUND, UNDOING, some[:2], ("take right",)), some[:1])
        self.assertRaised(Refused, {"word": "empty"}, pack_after, AROUND, UNDOING, some[:1], ("take right",))

    def test_refused(self):
        wrong = NO_TUPLES + (
            (), ("jump",), ("put right",), ("put right", 2), ("put right", True), ("put right", -1),
            ("put right", 0, 0), ("take left", 0), (("put right", 0),), ("slide",), ("slide", 3), ("slide", 0),
            ["put right", 0], (["put right"], 0), ("put right", [0]), ("put right", {0: 1}), ("put left", None),
        )
        words = {}
        for teller, book in packed([NEAR, known_teller("holds", 2)]):
            for row in ((), (0,), (1, 0, 1)):
                some = pack(teller, book, row)
                deeds = deeds_of(("put left", "put right", "slide", "take left", "take right"), 2)
                for value in wrong + deeds:
                    word = deed_error(book, 2, row, value)
                    words[word] = True
                    if word is not None:
                        self.assertRaised(Refused, {"word": word}, pack_after, teller, book, some, value)
                    else:
                        self.assertEqual(length_of(pack_after(teller, book, some, value)),
                                         len(after(book, 2, row, value)))
        self.assertEqual(set(words), {None, "form", "letter", "book", "empty"})

    def test_empty_is_told_of_packs_without_letters_alone(self):
        for book in ONE_TAKE_BOOKS:
            take = ("take left",) if "take left" in book else ("take right",)
            self.assertRaised(Refused, {"word": "empty"}, pack_after, NEAR, book, ((0, 0),), take)
            row = (1,)
            self.assertSame(pack_after(NEAR, book, pack(NEAR, book, row), take), ((0, 0),))

    def test_which_is_raised(self):
        for deed in (("put right", 0), ("take left",), None, ("jump",), [], ("put right", 9)):
            for book in UNFIT_BOOKS:
                for teller in [FOLLOWING, PARITY] + [teller for _, teller in LOTS_301 + MARKS_301]:
                    self.assertRaised(Unfit, {}, pack_after, teller, book, ((0, 0),), deed)
            for book, teller in LOTS_301 + MARKS_301 + BOTH_301:
                if book in ONE_TAKE_BOOKS:
                    self.assertRaised(TooMany, {"limit": 300}, pack_after, teller, book, ((0, 0),), deed)
            for book, teller in ((UNDOING, PARITY), (QUEUE, PARITY), (UNDOING, ENDS), (("take left",), PARITY)):
                self.assertRaised(Unfit, {}, pack_after, teller, book, ((0, 0),), deed)

    def test_what_was_handed_in_stays_a_pack(self):
        draw = random.Random(731)
        for teller, book in packed(climbing_tellers(732, 20)):
            some = drawn_pack(draw, teller, book, 9)
            for deed in deeds_of(book, kinds(teller)):
                if length_of(some) > 0 or deed[0].startswith("put"):
                    found = pack_after(teller, book, some, deed)
                    self.assertSame(pack_error(teller, book, found), None)
                    self.assertIs(type(pack_tells(teller, book, found)), int)
                    for block in found:
                        self.assertIs(type(block), tuple)


class TestTimes(Case):
    def test_great_steps(self):
        moves = ((1, 1), (2, 2), (3, 3), (4, 4), (5, 5), (0, 6), (7, 7), (8, 8), (9, 9), (6, 10), (10, 10))
        teller = (moves, tuple(range(11)))
        some = ((0, 6 * 10 ** 30 + 5), (6, 4 * 10 ** 20 + 3), (10, 10 ** 30))
        self.assertSame(pack_error(teller, UNDOING, some), None)
        for deed in deeds_of(UNDOING, 2):
            with self.assertQuick(1):
                pack_after(teller, UNDOING, some, deed)
        for book, (lots, letter) in itertools.product(ONE_TAKE_BOOKS, ((2, 0), (2, 1))):
            some = pack(NEAR, book, (1, 0) * 10)
            some = some[:-1] + ((some[-1][0], some[-1][1] + 10 ** 30),)
            for word in book:
                deed = (word,) if word.startswith("take") else (word, letter)
                with self.assertQuick(1):
                    pack_after(NEAR, book, some, deed)

    def test_300_lots(self):
        tried = 0
        draw = random.Random(733)
        for book, teller in LOTS_300 + tuple(case[:2] for case in MARKS_300):
            if book not in ONE_TAKE_BOOKS or grade(teller, book) is None:
                continue
            row = drawn_row(draw, kinds(teller), 300)
            some = pack(teller, book, row)
            far = [place for place, (_, steps) in enumerate(some) if steps > 0]
            for deed in open_deeds(book, kinds(teller), row):
                tried += 1
                with self.assertQuick(2):
                    found = pack_after(teller, book, some, deed)
                self.assertSame(found, pack(teller, book, after(book, kinds(teller), row, deed)))
                if far:
                    lot, steps = some[far[-1]]
                    more = some[:far[-1]] + ((lot, steps + 10 ** 30),) + some[far[-1] + 1:]
                    if pack_error(teller, book, more) is None:
                        with self.assertQuick(2):
                            pack_after(teller, book, more, deed)
        self.assertGreater(tried, 5)
