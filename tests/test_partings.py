"""[D4]: deeds that tell two rows apart, as few as can be."""

import random

from endkeepers.errors import Unfit
from endkeepers.histories import told_apart
from endkeepers.moving import deed_error, led
from endkeepers.partings import parting, parting_error
from endkeepers.tellers import kinds, told

from tests.helping import (
    ALL_ENDS, BARE, FOLLOWING, HOLDING, NO_TUPLES, QUEUE, TOLD_BOOKS, UNDOING, WINDOW, Case, chain, drawn_row,
    drawn_teller, drawn_tellers, ring, rows_in_order, slow_partings,
)


class TestParting(Case):
    def check(self, teller, book, one, other):
        """What parting returns is a tuple of deeds that part, and None exactly if the histories are the same."""
        deeds = parting(teller, book, one, other)
        self.assertEqual(deeds is None, not told_apart(teller, book, one, other))
        if deeds is not None:
            self.assertIs(type(deeds), tuple)
            many = kinds(teller)
            ends = led(book, many, one, deeds), led(book, many, other, deeds)
            self.assertNotEqual(told(teller, ends[0]), told(teller, ends[1]))
            self.assertSame(parting_error(teller, book, one, other, deeds), None)
        return deeds

    def test_examples(self):
        self.assertSame(parting(FOLLOWING, QUEUE, (0, 1), (1, 1)), ())
        self.assertSame(parting(FOLLOWING, QUEUE, (1, 0, 0), (0, 0, 0)), None)
        self.assertSame(parting(FOLLOWING, UNDOING, (0, 0), (1, 0)), (("take right",), ("put right", 1)))
        self.assertSame(len(parting(FOLLOWING, ALL_ENDS, (0, 1, 1), (0, 1, 0))), 2)

    def test_unfit(self):
        for book in TOLD_BOOKS:
            self.assertRaised(Unfit, {}, parting, FOLLOWING, book, (), (0,))
            self.assertRaised(Unfit, {}, parting_error, FOLLOWING, book, (), (0,), ())
            self.assertRaised(Unfit, {}, parting_error, FOLLOWING, book, (0,) * 40, (0,) * 39, [])
        for one, other in (((), ()), ((0,), (1,)), ((0,), (0, 1))):
            self.assertRaised(Unfit, {}, parting, FOLLOWING, BARE, one, other)
            self.assertRaised(Unfit, {}, parting_error, FOLLOWING, BARE, one, other, ())

    def test_a_row_and_itself(self):
        for book in TOLD_BOOKS:
            for row in ((), (0,), (1, 0) * 20):
                self.assertSame(parting(FOLLOWING, book, row, row), None)

    def test_as_few_as_by_going_through_all_deeds(self):
        draw = random.Random(340)
        lengths = {}
        for teller in drawn_tellers(341, 30, 3, 2, 2):
            rows = [row for row in rows_in_order(kinds(teller), 3) if row]
            for book in TOLD_BOOKS:
                for _ in range(3):
                    one = draw.choice(rows)
                    other = draw.choice([row for row in rows if len(row) == len(one)])
                    with self.subTest(teller=teller, book=book, one=one, other=other):
                        deeds = self.check(teller, book, one, other)
                        fewest = slow_partings(teller, book, one, other, len(one) + 2 * len(teller[0]))
                        self.assertSame(None if deeds is None else len(deeds), fewest)
                        lengths.setdefault(book, set()).add(fewest)
        for book in TOLD_BOOKS:
            self.assertGreaterEqual(len(lengths[book]), 2, book)
        self.assertGreaterEqual(len(set().union(*lengths.values())), 4)

    def test_many_deeds_as_few_as_by_going_through_all(self):
        # Where a letter matters only behind others, and only ahead of others.
        third = (((1, 1), (2, 2), (3, 4), (3, 3), (4, 4)), (0, 0, 0, 1, 2))
        ahead = (((1, 0), (2, 1), (3, 4), (3, 3), (4, 4)), (0, 0, 0, 1, 2))
        for teller in (third, ahead):
            for book in TOLD_BOOKS:
                for one in rows_in_order(2, 3):
                    for other in rows_in_order(2, 3):
                        if len(one) == len(other) and one < other:
                            deeds = self.check(teller, book, one, other)
                            fewest = slow_partings(teller, book, one, other, 8)
                            self.assertSame(None if deeds is None else len(deeds), fewest)
        self.assertSame(parting(third, ("put left",), (0,), (1,)) is not None, True)
        self.assertSame(len(parting(third, ("put left",), (0,), (1,))), 2)

    def test_40_letters(self):
        draw = random.Random(342)
        for teller in drawn_tellers(343, 12, 8, 3, 2):
            for book in TOLD_BOOKS:
                one = drawn_row(draw, kinds(teller), 40)
                place = draw.randrange(40)
                other = one[:place] + (draw.randrange(kinds(teller)),) + one[place + 1:]
                self.check(teller, book, one, other)
                self.check(teller, book, one, drawn_row(draw, kinds(teller), 40))

    def test_what_must_go_goes(self):
        # Only the first letter differs, and the row holds a 0 behind it.
        one, other = (0,) * 40, (1,) + (0,) * 39
        self.assertSame(parting(HOLDING, UNDOING, one, other), (("take right",),) * 39)
        self.assertSame(parting(HOLDING, QUEUE, one, other), None)
        self.assertSame(parting(HOLDING, WINDOW, one, other), None)
        self.assertSame(parting(HOLDING, WINDOW, one[::-1], other[::-1]), (("slide", 1),) * 39)
        self.assertSame(parting(HOLDING, QUEUE, one[::-1], other[::-1]), (("take left",),) * 39)
        middle = (0,) * 19 + (1,) + (0,) * 20
        self.assertEqual(
            sorted(parting(HOLDING, ALL_ENDS, one, middle)), [("take left",)] * 19 + [("take right",)] * 20,
        )

    def test_tellers_of_24_states_that_count_a_letter(self):
        moves = tuple(((state + 1) % 24, state) for state in range(24))
        counting = moves, tuple(int(state == 23) for state in range(24))
        one, other = (0, 1) * 20, (1, 0) + (0, 1) * 19
        for book in TOLD_BOOKS:
            self.check(counting, book, one, other)
            self.check(counting, book, (0,) * 40, (1,) + (0,) * 39)
        # From none and one 0 on it takes 22 more, or 23, until the two are told apart.
        self.assertSame(len(parting(counting, ("put right",), (0,), (1,))), 22)
        self.assertSame(len(parting(counting, ("put left",), (0,), (1,))), 22)
        self.assertSame(len(parting(counting, ("put left", "put right"), (0,), (1,))), 22)
        self.assertSame(parting(counting, ("take right",), (0,), (1,)), None)
        lasting = tuple((min(state + 1, 23), state) for state in range(24)), (0,) * 23 + (1,)
        self.assertSame(parting(lasting, ("put right",), (0,), (1,)), (("put right", 0),) * 22)
        self.assertSame(parting(lasting, ("put left",), (0,), (1,)), (("put left", 0),) * 22)
        self.assertSame(parting(lasting, ("take right",), (0,) * 40, (1,) + (0,) * 39), (("take right",),) * 17)
        self.assertSame(parting(lasting, WINDOW, (0,) * 40, (1,) + (0,) * 39), None)
        for book in TOLD_BOOKS:
            self.check(lasting, book, (0,) * 24 + (1,) * 16, (1,) * 16 + (0,) * 24)
            self.check(ring(24, 5, 3), book, (0, 1, 2), (2, 1, 0))

    def test_at_most_as_many_as_letters_and_twice_the_states(self):
        draw = random.Random(344)
        for teller in drawn_tellers(345, 60, 9, 2, 1):
            for book in TOLD_BOOKS:
                length = draw.randint(1, 9)
                one, other = drawn_row(draw, kinds(teller), length), drawn_row(draw, kinds(teller), length)
                deeds = parting(teller, book, one, other)
                self.assertLessEqual(len(deeds or ()), length + 2 * len(teller[0]))

    def test_letters_that_are_put_ahead_stand_in_their_order(self):
        # Only 0 1 ahead leads to the state in which the next letter counts.
        order = (((1, 3), (3, 2), (4, 5), (3, 3), (4, 4), (5, 5)), (0, 0, 0, 0, 1, 2))
        self.assertSame(parting(order, ("put left",), (0,), (1,)), (("put left", 1), ("put left", 0)))
        # Here a 0 ahead is enough: 0 1 and the 0 behind lead there, too.
        self.assertSame(parting(order, ("put left", "take right"), (0, 0), (1, 0)), (("put left", 0),))
        # The letter counts only between two 2s.
        between = (((5, 5, 1), (2, 3, 5), (5, 5, 4), (5, 5, 5), (5, 5, 5), (5, 5, 5)), (0, 0, 0, 0, 1, 0))
        self.assertEqual(
            sorted(parting(between, ("put left", "put right"), (0,), (1,))), [("put left", 2), ("put right", 2)],
        )
        self.assertSame(parting(between, ("put left",), (0,), (1,)), None)
        self.assertSame(parting(between, ("put right",), (0,), (1,)), None)
        behind = (((1, 4), (4, 2), (4, 3), (3, 3), (4, 4)), (0, 0, 0, 1, 0))
        self.assertSame(parting(behind, ("put right",), (0,), (1,)), (("put right", 1), ("put right", 1)))


class TestPartingError(Case):
    def test_examples(self):
        values = (
            (("take right",), ("put right", 1)), (), [], (("take right",),) * 3, (("put right", 2),), (("take left",),),
        )
        self.assertSame(
            [parting_error(FOLLOWING, UNDOING, (0, 0), (1, 0), value) for value in values],
            [None, "alike", "form", ("deed", 2), ("deed", 0), ("deed", 0)],
        )

    def test_form(self):
        for value in NO_TUPLES + ((("put right", 0),) * 201, (None,) * 201, [("take right",)]):
            with self.subTest(value=value):
                self.assertSame(parting_error(FOLLOWING, UNDOING, (0, 0), (1, 0), value), "form")

    def test_200_deeds_and_201(self):
        # A 0 and a 1 at the beginning: the 1 is told behind the 0 as long as it is there.
        growing = (("put right", 1),) * 199
        for one, other in (((0, 0), (1, 0)), ((0,) * 40, (1,) + (0,) * 39)):
            takes = (("take right",),) * (len(one) - 1)
            wanted = takes + (("put right", 0), ("take right",)) * 80 + growing
            self.assertSame(parting_error(FOLLOWING, UNDOING, one, other, wanted[:199] + (("put right", 1),)), None)
            self.assertSame(len(wanted[:199] + (("put right", 1),)), 200)
            self.assertSame(parting_error(FOLLOWING, UNDOING, one, other, wanted[:200] + (("put right", 1),)), "form")
        self.assertSame(parting_error(FOLLOWING, ("put right",), (0,), (1,), (("put right", 1),) * 200), None)
        self.assertSame(parting_error(FOLLOWING, ("put right",), (0,), (1,), (("put right", 1),) * 201), "form")
        self.assertSame(parting_error(FOLLOWING, ("put right",), (0,), (0,), (("put right", 1),) * 200), "alike")
        self.assertSame(parting_error(FOLLOWING, ("put right",), (0,), (1,), (None,) * 200), ("deed", 0))

    def test_the_first_deed_that_fails(self):
        good = (("take right",), ("put right", 1))
        bad = (
            ("take left",), ("put right", 2), ("put right", True), ("put right",), ("take right", 0), ["take right"],
            "take right", ("slide", 0), None, 0, (), ("put left", 0), [[{}]], {"put right": 1}, (("take right",),),
        )
        for wrong in bad:
            for place in (0, 1, 2):
                value = good[:place] + (wrong,) + good[place:] + (wrong, None)
                with self.subTest(value=value):
                    self.assertSame(parting_error(FOLLOWING, UNDOING, (0, 0), (1, 0), value), ("deed", place))
        # It is ahead of "alike", and so also where both rows are the same.
        self.assertSame(parting_error(FOLLOWING, UNDOING, (), (), (("take right",),)), ("deed", 0))
        self.assertSame(parting_error(FOLLOWING, QUEUE, (0,), (1,), (("take left",),) * 2), ("deed", 1))
        self.assertSame(parting_error(FOLLOWING, WINDOW, (), (), (("slide", 0),)), ("deed", 0))

    def test_alike(self):
        self.assertSame(parting_error(FOLLOWING, UNDOING, (0, 1), (0, 1), ()), "alike")
        self.assertSame(parting_error(FOLLOWING, QUEUE, (0, 0), (1, 0), (("put right", 1),)), "alike")
        self.assertSame(parting_error(FOLLOWING, WINDOW, (0, 1), (1, 1), (("slide", 1),)), "alike")

    def test_not_the_fewest(self):
        self.assertSame(parting_error(FOLLOWING, QUEUE, (0, 1), (1, 1), (("put right", 0),)), None)
        self.assertSame(
            parting_error(FOLLOWING, UNDOING, (0, 0), (1, 0), (("take right",), ("put right", 0), ("put right", 1))),
            "alike",
        )
        self.assertSame(
            parting_error(FOLLOWING, UNDOING, (0, 0), (1, 0), (("take right",), ("put right", 1), ("put right", 0))),
            None,
        )

    def test_drawn_deeds(self):
        draw = random.Random(346)
        answers = set()
        for teller in drawn_tellers(347, 200, 4, 3, 1):
            many, book = kinds(teller), draw.choice(TOLD_BOOKS)
            length = draw.randint(0, 4)
            one, other = drawn_row(draw, many, length), drawn_row(draw, many, length)
            deeds = tuple(
                (word,) if word.startswith("take") else (word, draw.randrange(many))
                for word in draw.choices(ALL_ENDS + ("slide",) + book * 9, k=draw.randint(0, 5))
            )
            wanted, here, there = None, one, other
            for place, deed in enumerate(deeds):
                if deed_error(book, many, here, deed) is not None:
                    wanted = ("deed", place)
                    break
                here, there = led(book, many, here, (deed,)), led(book, many, there, (deed,))
            if wanted is None and told(teller, here) == told(teller, there):
                wanted = "alike"
            self.assertSame(parting_error(teller, book, one, other, deeds), wanted)
            answers.add(wanted if wanted is None or wanted == "alike" else "deed")
        self.assertEqual(answers, {None, "alike", "deed"})


class TestTimes(Case):
    def test_the_edges(self):
        draw = random.Random(348)
        tellers = [drawn_teller(draw, 24, many, 99) for many in (1, 2, 3)] + [chain(24, 3)]
        for teller in tellers:
            one, other = drawn_row(draw, kinds(teller), 40), drawn_row(draw, kinds(teller), 40)
            for book in TOLD_BOOKS:
                with self.assertQuick(2):
                    parting(teller, book, one, other)
        with self.assertQuick(2):
            parting_error(chain(24, 3), ALL_ENDS, (0,) * 40, (1,) * 40, (("put left", 0),) * 200)
