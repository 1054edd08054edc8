"""What the tests of tables share: slow tables, spoilt ones, and keepers that go by them."""

import itertools

from tests.helping import drawn_row, slow_after, slow_history, slow_told

PUTS, TAKES = ("put left", "put right"), ("take left", "take right")


def slow_deeds(book, many):
    """The deeds of the book, ascending."""
    return tuple(sorted(
        (word,) + letter for word in book
        for letter in ([(a,) for a in range(many)] if word not in TAKES else [()])
    ))


def slow_level(level, deed, last):
    """The level to which a deed leads, or None."""
    if deed[0] in PUTS:
        return level + 1 if level < last else None
    if level == 0:
        return None
    return level if deed[0] == "slide" else level - 1


def slow_made(teller, book, size):
    """The table of all rows and all deeds."""
    many = len(teller[0][0])
    deeds = slow_deeds(book, many)
    numbers, levels = {}, []
    for level in range(size + 1):
        rows = list(itertools.product(range(many), repeat=level))
        histories = []
        for row in rows:
            history = slow_history(teller, book, row)
            if history not in histories:
                histories.append(history)
            numbers[row] = histories.index(history)
        levels.append(rows)
    table = []
    for level, rows in enumerate(levels):
        states = {}
        for row in rows:
            nexts = tuple(
                None if slow_level(level, deed, size) is None else numbers[slow_after(row, deed)] for deed in deeds
            )
            # All rows of one history lead to the same histories.
            assert states.setdefault(numbers[row], (slow_told(teller, row), nexts)) == (slow_told(teller, row), nexts)
        table.append((tuple(numbers[row] for row in rows), tuple(states[number] for number in range(len(states)))))
    return tuple(table)


def slow_table_error(book, many, value):
    """What is wrong first with a value, level by level."""
    deeds = slow_deeds(book, many)
    if type(value) is not tuple or len(value) not in range(1, 6):
        return "form"
    for n, level in enumerate(value):
        if not looks_like_level(level, many ** n, len(deeds)):
            return ("level", n)
    for n, level in enumerate(value):
        for q, state in enumerate(level[1]):
            for deed, item in zip(deeds, state[1]):
                there = slow_level(n, deed, len(value) - 1)
                if there is None and item is not None:
                    return ("state", n, q)
                if there is not None and not (type(item) is int and 0 <= item < len(value[there][1])):
                    return ("state", n, q)
    return None


def looks_like_level(level, rows, many):
    """Whether a value is a level, whatever stands in its nexts."""
    if type(level) is not tuple or len(level) != 2:
        return False
    starts, states = level
    if type(starts) is not tuple or type(states) is not tuple or len(starts) != rows or len(states) not in range(1, 101):
        return False
    for state in states:
        if type(state) is not tuple or len(state) != 2 or type(state[0]) is not int or not 0 <= state[0] <= 99:
            return False
        if type(state[1]) is not tuple or len(state[1]) != many:
            return False
    return all(type(start) is int and 0 <= start < len(states) for start in starts)


def spots_of(value, path=()):
    """The paths to all parts of a value of tuples, to itself first."""
    yield path
    if isinstance(value, tuple):
        for place, item in enumerate(value):
            yield from spots_of(item, path + (place,))


def part_of(value, path):
    """What stands at a path."""
    for place in path:
        value = value[place]
    return value


def spoilt(value, path, other):
    """The value, with another one at a path."""
    if not path:
        return other
    items = list(value)
    items[path[0]] = spoilt(value[path[0]], path[1:], other)
    return tuple(items)


def drawn_table(draw, book, many, size, most, greatest=2):
    """A drawn table, with up to so many states at each level."""
    deeds = slow_deeds(book, many)
    sizes = [draw.randint(1, most) for _ in range(size + 1)]
    table = []
    for level, states in enumerate(sizes):
        starts = tuple(draw.randrange(states) for _ in range(many ** level))
        lines = []
        for _ in range(states):
            nexts = []
            for deed in deeds:
                there = slow_level(level, deed, size)
                nexts.append(None if there is None else draw.randrange(sizes[there]))
            lines.append((draw.randint(0, greatest), tuple(nexts)))
        table.append((starts, tuple(lines)))
    return tuple(table)


def split_table(draw, book, many, table):
    """A table that answers the same: states told twice, mixed, and some that nothing leads to."""
    deeds = slow_deeds(book, many)
    copies = []
    for _, states in table:
        line = [(state, copy) for state in range(len(states)) for copy in range(2)] + [(0, 2)]
        draw.shuffle(line)
        copies.append(line)

    def one_of(level, state):
        return copies[level].index((state, draw.randrange(2)))

    found = []
    for level, (starts, states) in enumerate(table):
        lines = []
        for state, _ in copies[level]:
            number, nexts = states[state]
            behind = [slow_level(level, deed, len(table) - 1) for deed in deeds]
            lines.append((number, tuple(
                None if there is None else one_of(there, onward) for there, onward in zip(behind, nexts)
            )))
        found.append((tuple(one_of(level, start) for start in starts), tuple(lines)))
    return tuple(found)


def slow_answers(book, many, table, row, deeds):
    """What a keeper tells that goes by a table, and the place of the first deed that leads nowhere, or None."""
    known = slow_deeds(book, many)
    level = len(row)
    state = table[level][0][list(itertools.product(range(many), repeat=level)).index(row)]
    found = [table[level][1][state][0]]
    for place, deed in enumerate(deeds):
        there = slow_level(level, deed, len(table) - 1) if deed in known else None
        if there is None:
            return tuple(found), place
        state = table[level][1][state][1][known.index(deed)]
        level = there
        found.append(table[level][1][state][0])
    return tuple(found), None


def slow_parted(book, many, table):
    """The pairs of states of a level, from which unlike numbers are told behind some deeds."""
    deeds = slow_deeds(book, many)
    last = len(table) - 1
    pairs = [
        (level, one, other) for level, (_, states) in enumerate(table)
        for one in range(len(states)) for other in range(len(states))
    ]
    parted = {
        (level, one, other) for level, one, other in pairs
        if table[level][1][one][0] != table[level][1][other][0]
    }
    grown = True
    while grown:
        grown = False
        for level, one, other in pairs:
            if (level, one, other) in parted:
                continue
            left, right = table[level][1][one][1], table[level][1][other][1]
            for deed, here, there in zip(deeds, left, right):
                if here is not None and (slow_level(level, deed, last), here, there) in parted:
                    parted.add((level, one, other))
                    grown = True
                    break
    return parted


def slow_small(book, many, table):
    """The table cut down, in the words of the document."""
    deeds = slow_deeds(book, many)
    last = len(table) - 1
    parted = slow_parted(book, many, table)

    def head(level, state):
        return min(other for other in range(len(table[level][1])) if (level, state, other) not in parted)

    order = []
    for level, (starts, _) in enumerate(table):
        for start in starts:
            if (level, head(level, start)) not in order:
                order.append((level, head(level, start)))
    for level, state in order:
        for deed, onward in zip(deeds, table[level][1][state][1]):
            if onward is not None:
                there = slow_level(level, deed, last)
                if (there, head(there, onward)) not in order:
                    order.append((there, head(there, onward)))
    kept = [[state for where, state in order if where == level] for level in range(last + 1)]
    found = []
    for level, (starts, states) in enumerate(table):
        lines = []
        for state in kept[level]:
            number, nexts = states[state]
            behind = [slow_level(level, deed, last) for deed in deeds]
            lines.append((number, tuple(
                None if onward is None else kept[there].index(head(there, onward))
                for there, onward in zip(behind, nexts)
            )))
        found.append((tuple(kept[level].index(head(level, start)) for start in starts), tuple(lines)))
    return tuple(found)


def slow_broken(teller, book, table):
    """The fewest deeds behind which some row is told wrong by a table, or None."""
    many = len(teller[0][0])
    deeds = slow_deeds(book, many)
    last = len(table) - 1
    here = {
        (row, start) for level, (starts, _) in enumerate(table)
        for row, start in zip(itertools.product(range(many), repeat=level), starts)
    }
    seen = set()
    number = 0
    while here - seen:
        if any(table[len(row)][1][state][0] != slow_told(teller, row) for row, state in here):
            return number
        seen |= here
        here = {
            (slow_after(row, deed), onward) for row, state in here
            for deed, onward in zip(deeds, table[len(row)][1][state][1])
            if slow_level(len(row), deed, last) is not None
        }
        number += 1
    return None


def drawn_deeds(draw, book, many, length, last, most):
    """Deeds that can be done in a table, from a row of so many letters."""
    deeds = slow_deeds(book, many)
    found = []
    for _ in range(draw.randint(0, most)):
        near = [deed for deed in deeds if slow_level(length, deed, last) is not None]
        if near:
            found.append(draw.choice(near))
            length = slow_level(length, found[-1], last)
    return tuple(found)


def drawn_start(draw, many, last):
    """A row of no more letters than the last level is for."""
    return drawn_row(draw, many, draw.randint(0, last))
