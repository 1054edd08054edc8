"""[H6]: what holds of tables."""

import random

from endkeepers.amounts import needs
from endkeepers.errors import TooMany
from endkeepers.judging import answers, broken, small
from endkeepers.knowntellers import known_names, known_teller
from endkeepers.tables import counts, made, table_error
from endkeepers.tellers import kinds, least

from tests.helping import RESTING_BOOKS, TAKING_BOOKS, TOLD_BOOKS, WINDOW, Case, drawn_teller, drawn_tellers
from tests.keeping import drawn_deeds, drawn_start, drawn_table, part_of, split_table, spoilt, spots_of


def more_letters(teller, book):
    """How many letters more than the row has are enough to tell unlike histories apart; 0 without puts."""
    states = len(least(teller)[0])
    if states == 1 or "slide" in book or not {"put left", "put right"} & set(book):
        return 0
    if "put left" in book and "put right" in book:
        return 2 * states - 3
    return states - 2 if "put right" in book else states - 1


class TestTableFacts(Case):
    def test_made_tables_are_right_and_have_as_many_states_as_are_needed(self):
        draw = random.Random(680)
        known = [known_teller(name, many) for name in known_names() for many in (1, 2, 3)]
        for teller in known + list(drawn_tellers(681, 25, 5, 3, 3)):
            for book in TOLD_BOOKS:
                size = draw.randint(0, 4 if kinds(teller) < 3 else 3)
                table = made(teller, book, size)
                self.assertSame(table_error(book, kinds(teller), table), None)
                self.assertSame(broken(teller, book, table), None)
                try:
                    self.assertSame(counts(table), needs(teller, book, size))
                except TooMany:
                    pass

    def test_right_exactly_if_cut_down_it_is_the_made_one_cut_down(self):
        draw = random.Random(682)
        answers_found = {}
        for _ in range(900):
            teller = drawn_teller(draw, draw.randint(1, 4), draw.randint(1, 2), draw.randint(0, 1))
            book, many = draw.choice(TOLD_BOOKS), kinds(teller)
            size = draw.randint(0, 3)
            first = made(teller, book, size)
            kind = draw.choice(("made", "split", "drawn", "small"))
            table = {
                "made": first, "split": split_table(draw, book, many, first), "small": small(book, many, first),
                "drawn": drawn_table(draw, book, many, size, 2, 1),
            }[kind]
            for _ in range(draw.choice((0, 1, 1))):
                paths = [path for path in spots_of(table) if isinstance(part_of(table, path), int)]
                value = spoilt(table, draw.choice(paths), draw.randrange(3))
                table = value if table_error(book, many, value) is None else table
            right = broken(teller, book, table) is None
            self.assertEqual(small(book, many, table) == small(book, many, first), right)
            answers_found[(kind, right)] = True
            if right:
                for here, fewest in zip(counts(table), counts(small(book, many, first))):
                    self.assertGreaterEqual(here, fewest)
        self.assertEqual(len(answers_found), 8)

    def test_how_many_states_are_left_of_made_tables(self):
        draw = random.Random(683)
        left = {}
        tellers = [drawn_teller(draw, draw.randint(3, 5), 2, 1) for _ in range(120)]
        for teller in list(drawn_tellers(684, 60, 4, 2, 3)) + tellers:
            many = kinds(teller)
            for book in TOLD_BOOKS:
                size = draw.choice((0, 1, 1, 1, 2, 2, 3, 4))
                table = made(teller, book, size)
                full, cut = counts(table), counts(small(book, many, table))
                more = more_letters(teller, book)
                for level in range(size + 1):
                    self.assertLessEqual(cut[level], full[level])
                    if level + more <= size:
                        self.assertEqual(cut[level], full[level])
                left[(book, cut == full)] = True
                if cut == full:
                    self.assertSame(small(book, many, table), table)
        # Books without puts, and the slide, keep all; each other one loses some somewhere.
        for book in TOLD_BOOKS:
            self.assertEqual((book, False) in left, bool({"put left", "put right"} & set(book)), book)

    def test_letters_that_are_enough_are_needed(self):
        # With a letter less than is told some table has fewer states, whichever the puts.
        draw = random.Random(685)
        fewer = {}
        for teller in drawn_tellers(686, 250, 4, 2, 1):
            for book in TAKING_BOOKS + RESTING_BOOKS:
                more = more_letters(teller, book)
                size = draw.randint(2, 4)
                level = size - more + 1
                if more > 0 and 0 <= level <= size:
                    table = made(teller, book, size)
                    cut = counts(small(book, kinds(teller), table))
                    if cut[level] < counts(table)[level]:
                        fewer[tuple(word for word in book if word.startswith("put"))] = True
        self.assertEqual(len(fewer), 3)

    def test_small_once_more_and_what_it_tells(self):
        draw = random.Random(687)
        for _ in range(150):
            book, many = draw.choice(TOLD_BOOKS), draw.randint(1, 3)
            size = draw.randint(0, 3)
            table = drawn_table(draw, book, many, size, 5, 1)
            cut = small(book, many, table)
            self.assertSame(small(book, many, cut), cut)
            row = drawn_start(draw, many, size)
            deeds = drawn_deeds(draw, book, many, len(row), size, 60)
            self.assertSame(answers(book, many, cut, row, deeds), answers(book, many, table, row, deeds))

    def test_a_run_has_fewer_deeds_than_there_are_pairs(self):
        draw = random.Random(688)
        runs = 0
        for _ in range(300):
            teller = drawn_teller(draw, 2, draw.randint(1, 2), 1)
            book, many = draw.choice(TOLD_BOOKS + (WINDOW,)), kinds(teller)
            table = drawn_table(draw, book, many, draw.randint(0, 3), 4, 1)
            run = broken(teller, book, table)
            if run is not None:
                runs += 1
                pairs = sum(many ** level * states for level, states in enumerate(counts(table)))
                self.assertLess(len(run[1]), pairs)
        self.assertGreater(runs, 100)

    def test_only_one_with_so_few_states(self):
        draw = random.Random(689)
        for _ in range(120):
            teller = drawn_teller(draw, draw.randint(1, 3), draw.randint(1, 2), 1)
            book, many = draw.choice(TOLD_BOOKS), kinds(teller)
            table = split_table(draw, book, many, made(teller, book, draw.randint(0, 3)))
            cut = small(book, many, table)
            # With its states numbered otherwise it is cut down to itself as it was.
            turned = [list(range(len(states))) for _, states in cut]
            for line in turned:
                draw.shuffle(line)
            other = []
            last = len(cut) - 1
            for level, (starts, states) in enumerate(cut):
                lines = [None] * len(states)
                for state, (number, nexts) in enumerate(states):
                    lines[turned[level][state]] = (number, tuple(
                        None if there is None else turned[behind][there]
                        for behind, there in zip(self.levels_behind(book, many, level, last), nexts)
                    ))
                other.append((tuple(turned[level][start] for start in starts), tuple(lines)))
            self.assertSame(table_error(book, many, tuple(other)), None)
            self.assertSame(small(book, many, tuple(other)), cut)
            self.assertSame(broken(teller, book, tuple(other)), None)

    def levels_behind(self, book, many, level, last):
        """For each deed the level to which it leads, if it can be done."""
        found = []
        for word in book:
            there = level + {"put": 1, "take": -1, "slide": 0}[word.split()[0]]
            found += [there] * (1 if word.startswith("take") else many)
        return found
