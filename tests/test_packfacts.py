"""[I6]: what holds of packs, widths and lengths."""

import itertools
import random

from endkeepers.amounts import need
from endkeepers.counting import lot_of, ways
from endkeepers.grades import grade
from endkeepers.histories import history, told_apart
from endkeepers.knowntellers import known_names, known_teller
from endkeepers.moving import after, open_deeds
from endkeepers.packmoves import pack_after
from endkeepers.packplaces import pack_at, pack_place
from endkeepers.packs import length_of, pack, pack_error, pack_tells, width
from endkeepers.tellers import kinds, told

from tests.helping import Case, drawn_row, drawn_tellers, rows_in_order
from tests.packing import climbing_tellers, drawn_pack, drawn_rows, packed, slow_lone, slow_lots, slow_one_ring

KNOWN = [known_teller(name, many) for name in known_names() for many in (1, 2)]


def some_tellers(seed):
    """Known tellers, drawn ones, and such as have many rings."""
    return KNOWN + list(drawn_tellers(seed, 12, 4, 3, 2)) + list(climbing_tellers(seed + 1, 12, 6))


class TestPackFacts(Case):
    def test_one_pack_exactly_if_one_history_and_one_length(self):
        for teller, book in packed(some_tellers(760)):
            by_packs = {}
            for row in rows_in_order(kinds(teller), 5 if kinds(teller) < 3 else 3):
                by_packs.setdefault(pack(teller, book, row), set()).add((len(row), history(teller, book, row)))
            self.assertEqual(max(len(both) for both in by_packs.values()), 1)
            self.assertEqual(len(set().union(*by_packs.values())), len(by_packs))

    def test_as_many_packs_as_the_need(self):
        for teller, book in packed(some_tellers(762)):
            for length in range(6 if kinds(teller) < 3 else 4):
                rows = itertools.product(range(kinds(teller)), repeat=length)
                packs = {pack(teller, book, row) for row in rows}
                self.assertEqual(len(packs), need(teller, book, length))

    def test_unlike_packs_are_told_apart_by_deeds(self):
        draw = random.Random(764)
        answers = set()
        for teller, book in packed(some_tellers(765)):
            one, other = drawn_rows(draw, teller, (4, 4))
            apart = told_apart(teller, book, one, other)
            self.assertEqual(pack(teller, book, one) != pack(teller, book, other), apart)
            answers.add(apart)
        self.assertEqual(answers, {True, False})

    def test_packs_come_of_the_empty_one_letter_by_letter(self):
        draw = random.Random(767)
        for teller, book in packed(some_tellers(768)):
            row = drawn_row(draw, kinds(teller), 12)
            for word in book:
                if word.startswith("put"):
                    some = ((0, 0),)
                    for letter in (row[::-1] if word == "put left" else row):
                        some = pack_after(teller, book, some, (word, letter))
                    self.assertSame(some, pack(teller, book, row))

    def test_behind_a_deed_and_what_is_told(self):
        draw = random.Random(770)
        for teller, book in packed(some_tellers(771)):
            for row in drawn_rows(draw, teller, (0, 1, 6)):
                some = pack(teller, book, row)
                self.assertSame(pack_tells(teller, book, some), told(teller, row))
                for deed in open_deeds(book, kinds(teller), row):
                    behind = pack(teller, book, after(book, kinds(teller), row, deed))
                    self.assertSame(pack_after(teller, book, some, deed), behind)

    def test_how_many_blocks(self):
        draw = random.Random(773)
        full = 0
        for teller, book in packed(some_tellers(774)):
            power, most = grade(teller, book), width(teller, book)
            for some in [pack(teller, book, row) for row in drawn_rows(draw, teller, (0, 3, 40, 300))] + [
                    drawn_pack(draw, teller, book, 20) for _ in range(4)]:
                self.assertLessEqual(len(some), most)
                rings = [lot for lot, _ in some if not slow_lone(teller, book, lot)]
                self.assertLessEqual(len(rings), power + 1)
                full += len(rings) == power + 1
                for lot, steps in some:
                    self.assertTrue(steps == 0 or lot in rings)
                self.assertSame(length_of(some), sum(steps for _, steps in some) + len(some) - 1)
        self.assertGreater(full, 50)

    def test_places_there_and_back(self):
        draw = random.Random(776)
        for teller, book in packed(some_tellers(777)):
            for length in (0, 1, 9, 300):
                some = pack(teller, book, drawn_row(draw, kinds(teller), length))
                place = pack_place(teller, book, some)
                self.assertSame(pack_at(teller, book, length_of(some), place), some)

    def test_whole_rounds_more(self):
        draw = random.Random(779)
        tried = 0
        for teller, book in packed(some_tellers(780)):
            some = drawn_pack(draw, teller, book, 5)
            for place, (lot, steps) in enumerate(some):
                if slow_lone(teller, book, lot):
                    continue
                tried += 1
                length = len({there for there in range(len(ways(teller, book)))
                              if slow_one_ring(teller, book, lot, there)})
                for rounds in (1, 2, 10 ** 30):
                    more = some[:place] + ((lot, steps + rounds * length),) + some[place + 1:]
                    self.assertSame(pack_error(teller, book, more), None)
                    self.assertSame(pack_tells(teller, book, more), pack_tells(teller, book, some))
        self.assertGreater(tried, 100)

    def test_each_way_through_lots_is_that_of_some_row(self):
        draw = random.Random(782)
        for teller, book in packed(some_tellers(783)):
            some = drawn_pack(draw, teller, book, 3)
            lots = slow_lots(teller, book, some)
            if len(lots) > 8 or kinds(teller) ** len(lots) > 300:
                continue
            rows = itertools.product(range(kinds(teller)), repeat=len(lots) - 1)
            found = [row for row in rows if pack(teller, book, row) == some]
            self.assertTrue(found)
            self.assertSame(lot_of(teller, book, found[0]), lots[-1])
