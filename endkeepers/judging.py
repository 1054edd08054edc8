"""Judging tables: what a keeper answers by one, whether it is right, and the smallest that answers the same."""

from endkeepers.books import is_bare
from endkeepers.common import numbered, walked
from endkeepers.errors import BadRun, Unfit
from endkeepers.moving import after, deed_error, deeds_of
from endkeepers.tables import counts, level_behind, rows_by_levels
from endkeepers.tellers import kinds, told


def answers(book, many, table, row, deeds):
    """Return the tuple of what a keeper tells by the table, at the beginning and behind each of the deeds."""
    if is_bare(book) or len(row) >= len(table):
        raise Unfit()
    places = {deed: place for place, deed in enumerate(deeds_of(book, many))}
    state = _start_of(many, table, row)
    found = [table[len(row)][1][state][0]]
    for place, deed in enumerate(deeds):
        if deed_error(book, many, row, deed) is not None:
            raise BadRun(place)
        state = table[len(row)][1][state][1][places[deed]]
        # A put where the table ends leads nowhere.
        if state is None:
            raise BadRun(place)
        row = after(book, many, row, deed)
        found.append(table[len(row)][1][state][0])
    return tuple(found)


def _start_of(many, table, row):
    """Return the number of the state in which a keeper begins that is handed the row."""
    place = 0
    for letter in row:
        place = place * many + letter
    return table[len(row)][0][place]


def broken(teller, book, table):
    """Return None if the table is right, otherwise any run of the fewest deeds behind which it tells something else."""
    if is_bare(book):
        raise Unfit()
    deeds = deeds_of(book, kinds(teller))
    levels = rows_by_levels(kinds(teller), len(table) - 1)
    behind = _rows_behind(book, levels, deeds, kinds(teller))
    wanted = {row: told(teller, row) for rows in levels for row in rows}
    # Each pair of a row and a state, with the pair and the deed by which it was come to first.
    come = {}
    for rows, (starts, _) in zip(levels, table):
        for row, start in zip(rows, starts):
            come[(row, start)] = None
    pairs = list(come)
    at = 0
    while at < len(pairs):
        row, state = pairs[at]
        number, nexts = table[len(row)][1][state]
        if number != wanted[row]:
            return _run_to(come, pairs[at])
        for deed, there, onward in zip(deeds, behind[row], nexts):
            if there is not None and (there, onward) not in come:
                come[(there, onward)] = (pairs[at], deed)
                pairs.append((there, onward))
        at += 1
    return None


def _rows_behind(book, levels, deeds, many):
    """Return, as a dict, for each row the list of the rows behind the deeds, None where one cannot be done."""
    last = len(levels) - 1
    found = {}
    for level, rows in enumerate(levels):
        for row in rows:
            found[row] = [
                None if level_behind(level, deed, last) is None else after(book, many, row, deed) for deed in deeds
            ]
    return found


def _run_to(come, pair):
    """Return the run that leads to a pair, come having how each pair was come to."""
    deeds = []
    while come[pair] is not None:
        pair, deed = come[pair]
        deeds.append(deed)
    return pair[0], tuple(reversed(deeds))


def small(book, many, table):
    """Return the table cut down: like states made one, states that nothing leads to left out."""
    if is_bare(book):
        raise Unfit()
    nexts = _nexts_of(table, deeds_of(book, many))
    levels = [level for level, size in enumerate(counts(table)) for _ in range(size)]
    tells = [state[0] for _, states in table for state in states]
    lots = _lots_of(levels, tells, nexts)
    firsts = [lots.index(lot) for lot in range(max(lots) + 1)]
    begins = _begins_of(table)
    starts = list({lots[first + start]: True for first, (line, _) in zip(begins, table) for start in line})

    def steps_from(lot):
        return [(place, lots[there]) for place, there in enumerate(nexts[firsts[lot]]) if there is not None]

    order, _ = walked(starts, steps_from, len(lots))
    by_levels = [[lot for lot in order if levels[firsts[lot]] == level] for level in range(len(table))]
    numbers = {lot: number for line in by_levels for number, lot in enumerate(line)}

    def state_of_lot(lot):
        ahead = [None if there is None else numbers[lots[there]] for there in nexts[firsts[lot]]]
        return tells[firsts[lot]], tuple(ahead)

    return tuple([
        (tuple([numbers[lots[first + start]] for start in line]), tuple([state_of_lot(lot) for lot in kept]))
        for first, (line, _), kept in zip(begins, table, by_levels)
    ])


def _begins_of(table):
    """Return the list of the numbers that the first states of the levels have, all states being numbered in a row."""
    sizes = counts(table)
    return [sum(sizes[:level]) for level in range(len(sizes))]


def _nexts_of(table, deeds):
    """Return for each state the list of the numbers of its nexts, all states being numbered in a row."""
    begins = _begins_of(table)
    found = []
    for level, (_, states) in enumerate(table):
        places = [level_behind(level, deed, len(table) - 1) for deed in deeds]
        for _, nexts in states:
            found.append([
                None if there is None else begins[there] + onward for there, onward in zip(places, nexts)
            ])
    return found


def _lots_of(levels, tells, nexts):
    """Return for each state the number of its lot: those of its level that tell the same, whatever deeds follow."""
    lots = numbered(list(zip(levels, tells)))
    before = 0
    while max(lots) + 1 > before:
        before = max(lots) + 1
        marks = [
            tuple([lot] + [None if there is None else lots[there] for there in line]) for lot, line in zip(lots, nexts)
        ]
        lots = numbered(marks)
    return lots
