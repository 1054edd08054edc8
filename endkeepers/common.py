"""What several modules need and the interface does not list."""

from endkeepers.bounds import MAX_NAME, MAX_PAPER
from endkeepers.errors import TooMany


def is_integer(value):
    """Tell whether value is an integer."""
    # Python counts True and False as ints; the document does not.
    return isinstance(value, int) and not isinstance(value, bool)


def is_whole(value, low, high):
    """Tell whether value is an integer from low to high."""
    return is_integer(value) and low <= value <= high


def is_name(value):
    """Tell whether value is a name that a bench may give: a few small letters."""
    if not isinstance(value, str) or not 1 <= len(value) <= MAX_NAME:
        return False
    return all(["a" <= sign <= "z" for sign in value])


def is_paper_row(many, value):
    """Tell whether value is a row of letters of many kinds, of as many as a paper's rows may have."""
    if not isinstance(value, tuple) or len(value) > MAX_PAPER:
        return False
    return all([is_whole(letter, 0, many - 1) for letter in value])


def read_number(word, high):
    """Return the number from 0 to high that is written as word, or None if word is none.

    A number is written in the figures 0 to 9, without a zero ahead of another figure.
    """
    # Python refuses to read numbers of thousands of figures, so long words are sent back unread.
    if not word.isascii() or not word.isdecimal() or len(word) > len(str(high)):
        return None
    if len(word) > 1 and word[0] == "0":
        return None
    number = int(word)
    return number if number <= high else None


def numbered(marks):
    """Return the number of each mark, unlike marks being numbered as they first come."""
    numbers = {}
    return [numbers.setdefault(mark, len(numbers)) for mark in marks]


def explored(start, many, follow, limit):
    """Go from start to all that letters lead to, in the order of the rows that first lead there.

    follow(mark, letter) is the mark to which a letter leads. Returns the list of the
    marks, each at its number, and the tuple of the moves between the numbers.
    Raises TooMany(limit) if there are more than limit marks.
    """
    # A mark's letters are gone through behind those of all marks with earlier rows, in
    # order: so the earliest row that leads to a mark is the one that finds it.
    def by_letters(here):
        return [(letter, follow(here, letter)) for letter in range(many)]

    marks, steps = walked([start], by_letters, limit)
    return marks, tuple([tuple([there for _, there in pairs]) for pairs in steps])


def walked(starts, steps_from, limit):
    """Go from the starts to all that steps lead to, numbering what is come to as it first is.

    steps_from(mark) is the list of the pairs (label, mark) of the steps from a mark. Returns
    the list of the marks, each at its number, and the list with, for each of them, the tuple
    of the pairs (label, number of the mark to which the step leads).
    Raises TooMany(limit) if there are more than limit marks.
    """
    numbers = {start: number for number, start in enumerate(starts)}
    marks = list(starts)
    steps = []
    while len(steps) < len(marks):
        here = marks[len(steps)]
        pairs = []
        for label, there in steps_from(here):
            if there not in numbers:
                if len(marks) == limit:
                    raise TooMany(limit)
                numbers[there] = len(marks)
                marks.append(there)
            pairs.append((label, numbers[there]))
        steps.append(tuple(pairs))
    return marks, steps


def led_by(steps, start, labels):
    """Return the number of the mark to which steps of these labels lead from start."""
    here = start
    for label in labels:
        here = dict(steps[here])[label]
    return here


def least_to_left(lines):
    """Return the least row that grows left: its first letter brings the last item.

    A line has what may bring an item, by ascending letters: the letter, and the marks from and to which it leads.
    """
    # From the end of the row on: the marks of all rows that bring the items so far.
    come = [{0: True}]
    for line in lines:
        come.append({there: True for _, mark, there in line if mark in come[-1]})
    behind = come[-1]
    row = []
    for place in range(len(lines) - 1, -1, -1):
        fits = [(letter, mark) for letter, mark, there in lines[place] if mark in come[place] and there in behind]
        row.append(fits[0][0])
        behind = {mark: True for letter, mark in fits if letter == fits[0][0]}
    return tuple(row)


def same_follow(steps, one, other):
    """Tell whether the same rows of labels lead on from two marks, by the steps of walked."""
    heads = list(range(len(steps)))
    pairs = [(one, other)]
    # Two marks are put into one lot as soon as they have to go alike; as each of these
    # does away with a lot, there are fewer of them than marks.
    while pairs:
        one, other = pairs.pop()
        first, second = _head_of(heads, one), _head_of(heads, other)
        if first != second:
            if [label for label, _ in steps[first]] != [label for label, _ in steps[second]]:
                return False
            heads[second] = first
            pairs.extend([(left[1], right[1]) for left, right in zip(steps[first], steps[second])])
    return True


def _head_of(heads, mark):
    """Return the head of the mark's lot, and make the way to it shorter."""
    while heads[mark] != mark:
        heads[mark] = heads[heads[mark]]
        mark = heads[mark]
    return mark


def spot_of(turn, phase):
    """Return where a phase stands on a way of b + p spots that goes round by p behind b; turn is (b, p)."""
    start, length = turn
    return phase if phase < start else start + (phase - start) % length


def tallied(steps):
    """Return for each mark the list of the pairs (number of a mark, how many steps lead to it)."""
    found = []
    for pairs in steps:
        times = {}
        for _, there in pairs:
            times[there] = times.get(there, 0) + 1
        found.append(list(times.items()))
    return found


def counted(machine, last):
    """Return the list of the machine's numbers, from the number 0 to the number last.

    A machine is a triple: what tallied returns, the list of what a way is worth that ends
    at each mark, and the turn (b, p) of the starts. Its number n is the worth of all ways of n
    steps from the mark spot_of((b, p), n).
    """
    tallies, worths, turn = machine
    found = []
    for number in range(last + 1):
        found.append(worths[spot_of(turn, number)])
        worths = [sum([times * worths[there] for there, times in pairs]) for pairs in tallies]
    return found


def shortest_way(steps, start, goals):
    """Return the labels of a shortest way from start to one of the goals, and this one; goals is a list."""
    ways = {start: []}
    marks = [start]
    at = 0
    while marks[at] not in goals:
        here = marks[at]
        for label, there in steps[here]:
            if there not in ways:
                ways[there] = ways[here] + [label]
                marks.append(there)
        at += 1
    return ways[marks[at]], marks[at]


def reached(steps):
    """Return for each mark the number whose bits tell to which marks one step or more lead."""
    found = []
    for pairs in steps:
        bits = 0
        for _, there in pairs:
            bits |= 1 << there
        found.append(bits)
    for middle in range(len(steps)):
        for here in range(len(steps)):
            if found[here] >> middle & 1:
                found[here] |= found[middle]
    return found


def rings_of(steps):
    """Return for each mark the least mark of its ring, or None if it lies in none."""
    reach = reached(steps)
    found = []
    for here, bits in enumerate(reach):
        ring = [there for there in range(len(steps)) if bits >> there & 1 and reach[there] >> here & 1]
        found.append(ring[0] if ring else None)
    return found


def branching_marks(steps, rings):
    """Return the list of the marks from which two steps or more stay in their ring."""
    found = []
    for mark, pairs in enumerate(steps):
        if rings[mark] is not None and len([there for _, there in pairs if rings[there] == rings[mark]]) > 1:
            found.append(mark)
    return found


def branching_mark(steps, rings):
    """Return a mark from which two steps or more stay in its ring, or None if no ring branches."""
    found = branching_marks(steps, rings)
    return found[0] if found else None


def rings_ahead(steps, rings):
    """Return a dict with, for each ring, how many rings the way from it leads through that has the most.

    rings has for each mark a mark of its ring, the same one for all of them, or None. Marks
    in no ring may be told as if they were rings: so blocks are counted.
    """
    reach = reached(steps)
    heads = sorted(set([ring for ring in rings if ring is not None]))
    behind = {ring: [head for head in heads if head != ring and reach[ring] >> head & 1] for ring in heads}
    most = {}
    # From a ring fewer rings are come to than from those that lead to it.
    for ring in sorted(heads, key=lambda head: len(behind[head])):
        most[ring] = 1 + max([most[head] for head in behind[ring]], default=0)
    return most
