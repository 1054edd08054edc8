"""[G9]: what holds of windows, of their grades and of their papers."""

import random

from endkeepers.amounts import needs
from endkeepers.classes import turns
from endkeepers.errors import TooMany
from endkeepers.forkpapers import fork_least
from endkeepers.judging import broken
from endkeepers.knowntellers import known_names, known_teller
from endkeepers.ringpapers import rings_least
from endkeepers.rules import rule, rule_error, same_need
from endkeepers.tables import counts, made
from endkeepers.tellers import kinds, least
from endkeepers.windowgrades import window_alike, window_grades
from endkeepers.windowpapers import window_fork, window_fork_error, window_rings, window_rings_error
from endkeepers.windows import window_need, window_ways

from tests.edges import PLACES_300, TURNING, UNLIKE_RESTS
from tests.helping import QUEUE, WINDOW, Case, drawn_row, drawn_tellers, rows_in_order, spread

KNOWN = [known_teller(name, many) for name in known_names() for many in (1, 2, 3)]


def fitting(seed, times):
    """Drawn tellers and others for which nothing is too many."""
    for teller in list(drawn_tellers(seed, times, 4, 3, 2)) + list(TURNING) + [teller for _, teller in UNLIKE_RESTS]:
        try:
            window_ways(teller)
        except TooMany:
            continue
        yield teller


class TestWindowFacts(Case):
    def test_a_keeper_with_just_so_many_states(self):
        for teller in list(fitting(920, 40)) + KNOWN:
            table = made(teller, WINDOW, 4 if kinds(teller) < 3 else 3)
            self.assertSame(counts(table), tuple(window_need(teller, number) for number in range(len(table))))
            self.assertSame(broken(teller, WINDOW, table), None)

    def test_bounds_of_the_need(self):
        for teller in list(fitting(921, 40)) + KNOWN:
            try:
                queues = needs(teller, QUEUE, 40)
            except TooMany:
                continue
            for number, found in enumerate(needs(teller, WINDOW, 40)):
                self.assertSame(found, window_need(teller, number))
                self.assertLessEqual(1, found)
                self.assertLessEqual(found, kinds(teller) ** number)
                self.assertLessEqual(found, queues[number])

    def test_least_tellers_and_others_that_tell_the_same(self):
        draw = random.Random(922)
        for teller in fitting(923, 40):
            p = turns(teller)[1]
            rest = draw.randrange(p)
            one, other = (drawn_row(draw, kinds(teller), draw.randint(0, 6)) for _ in range(2))
            for same in (least(teller), spread(draw, teller)):
                self.assertSame(window_grades(same), window_grades(teller))
                self.assertSame(window_alike(same, rest, one, other), window_alike(teller, rest, one, other))
                for paper, error in ((window_fork, window_fork_error), (window_rings, window_rings_error)):
                    value = paper(teller, rest)
                    self.assertEqual(paper(same, rest) is None, value is None)
                    self.assertSame(error(same, rest, value), error(teller, rest, value))
                    self.assertSame(error(teller, rest, paper(same, rest)), error(teller, rest, value))
                    value = (one, other, one)
                    self.assertSame(error(same, rest, value), error(teller, rest, value))

    def test_one_rule_with_no_more_factors_than_places(self):
        ruled = 0
        for teller in list(fitting(924, 60)) + KNOWN:
            try:
                found = rule(teller, WINDOW)
            except TooMany as error:
                self.assertEqual(error.limit, 24)
                continue
            ruled += 1
            self.assertLessEqual(len(found[0]), len(window_ways(teller)))
            self.assertSame(rule_error(teller, WINDOW, found), None)
            self.assertSame(same_need(teller, WINDOW, least(teller), WINDOW), None)
            numbers = list(found[0])
            while len(numbers) < 60:
                numbers.append(sum(a * b for a, b in zip(found[1], reversed(numbers))))
            self.assertSame(tuple(numbers[:60]), needs(teller, WINDOW, 59))
        self.assertGreater(ruled, 40)

    def test_one_grade_a_fork_or_rings(self):
        for teller in list(fitting(925, 50)) + KNOWN + list(PLACES_300):
            b, grades = window_grades(teller)
            self.assertSame((b, len(grades)), turns(teller))
            for rest, power in enumerate(grades):
                fork, rings = window_fork(teller, rest), window_rings(teller, rest)
                self.assertEqual((fork is None, rings is None), (power is not None, power is None))
                for n in range(b + rest, 301, 11 * len(grades)):
                    found = window_need(teller, n)
                    least_told = rings_least(rings, n - b) if fork is None else fork_least(fork, n - b)
                    self.assertLessEqual(least_told, found)

    def test_any_paper_tells_no_more_than_is_needed(self):
        draw = random.Random(926)
        forks = rings = 0
        for teller in fitting(927, 40):
            if kinds(teller) > 2:
                continue
            rows = list(rows_in_order(kinds(teller), 5))
            b, grades = window_grades(teller)
            for _ in range(120):
                rest = draw.randrange(len(grades))
                lengths = [b + rest + k * len(grades) for k in range(0, 12, 3)]
                value = (draw.choice(rows[:4]), draw.choice(rows), draw.choice(rows))
                if window_fork_error(teller, rest, value) is None:
                    forks += 1
                    self.assertSame(grades[rest], None)
                    for n in lengths:
                        self.assertLessEqual(fork_least(value, n - b), window_need(teller, n))
                value = tuple(sorted((draw.choice(rows) for _ in range(draw.choice((2, 4)))), key=len))
                if window_rings_error(teller, rest, value) is None:
                    rings += 1
                    self.assertTrue(grades[rest] is None or len(value) // 2 <= grades[rest] + 1)
                    for n in lengths:
                        self.assertLessEqual(rings_least(value, n - b), window_need(teller, n))
        self.assertGreater(min(forks, rings), 10)
