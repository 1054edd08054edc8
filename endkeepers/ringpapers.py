"""Ring papers: rows that show that a power of the number of letters must be kept."""

from math import comb

from endkeepers.common import branching_mark, is_paper_row, rings_ahead, rings_of, shortest_way
from endkeepers.counting import lots_of
from endkeepers.tellers import kinds


def rings(teller, book):
    """Return any row of rings with as many as the grade tells, or None if it tells no number."""
    lots = lots_of(teller, book)
    ways = ring_ways(lots.steps)
    return None if ways is None else tuple([lots.least_row(labels) for labels in ways])


def ring_ways(steps):
    """Return the labels of the ways to each ring, and once round it, of the most rings; None if a ring branches."""
    heads = rings_of(steps)
    if branching_mark(steps, heads) is not None:
        return None
    ahead = rings_ahead(steps, heads)
    labels, mark = [], 0
    ways = []
    for number in range(max(ahead.values()), 0, -1):
        # All that such a ring leads to has fewer rings ahead: so the way to it leads through no other one.
        goals = [goal for goal, head in enumerate(heads) if head is not None and ahead[head] == number]
        way, mark = shortest_way(steps, mark, goals)
        labels = labels + way
        ways.append(labels)
        label, there = [(label, there) for label, there in steps[mark] if heads[there] == heads[mark]][0]
        back, _ = shortest_way(steps, there, [mark])
        labels = labels + [label] + back
        ways.append(labels)
    return ways


def rings_error(teller, book, value):
    """Return None if value is a row of rings of teller and book, otherwise what is wrong first."""
    lots = lots_of(teller, book)
    return rings_fault(kinds(teller), value, lots.items_of, lots.alike)


def rings_fault(many, value, items_of, alike):
    """Return what is wrong first with a row of rings, or None; items_of and alike are as in fork_fault."""
    if not isinstance(value, tuple) or len(value) < 2 or len(value) % 2 > 0:
        return "form"
    if not all([is_paper_row(many, row) for row in value]):
        return "form"
    for place in range(len(value) // 2):
        before, behind = items_of(value[2 * place]), items_of(value[2 * place + 1])
        if len(behind) <= len(before) or behind[:len(before)] != before:
            return ("ring", place)
        if not alike(value[2 * place], value[2 * place + 1]):
            return ("ring", place)
        if 2 * place + 2 < len(value) and not _leaves(before, behind, items_of(value[2 * place + 2])):
            return ("way", place)
    return None


def _leaves(before, behind, onward):
    """Tell whether onward goes on from behind with something else than the round from before to behind."""
    if onward[:len(behind)] != behind:
        return False
    around = behind[len(before):]
    step = onward[len(behind):]
    return any([item != around[place % len(around)] for place, item in enumerate(step)])


def rings_least(paper, number):
    """Return what a row of rings tells of the need of so many letters: that it is at least this."""
    power = len(paper) // 2 - 1
    longest = max([len(paper[2 * place + 1]) - len(paper[2 * place]) for place in range(power + 1)])
    steps = [len(paper[2 * place + 2]) - len(paper[2 * place + 1]) for place in range(power)]
    spare = number - len(paper[0]) - sum(steps)
    return 1 if spare < 0 else comb(spare // longest + power, power)
