"""Rules: needs for all numbers of letters at once."""

from math import gcd

from endkeepers.amounts import need_machine
from endkeepers.books import is_bare
from endkeepers.bounds import MAX_RULE
from endkeepers.common import counted, is_integer
from endkeepers.errors import TooMany, Unfit


def rule(teller, book):
    """Return the rule of the fewest numbers that tells the needs."""
    machine = need_machine(teller, book)
    size = len(machine[0])
    if size > MAX_RULE:
        raise TooMany(MAX_RULE)
    # Numbers that keep a rule of so many are known, with their least rule, from twice as many.
    numbers = counted(machine, 2 * size - 1)
    factors = _least_factors(numbers)
    return tuple(numbers[:len(factors)]), factors


def _least_factors(numbers):
    """Return the factors of the rule of the fewest numbers that tells these numbers.

    This is the way of Berlekamp and Massey. A line (c0, c1, ..) of width w says that
    c0 R(n) + c1 R(n - 1) + .. + cw R(n - w) is 0 from n = w on; it may be multiplied
    by any number but 0, so all stays in whole numbers.
    """
    line, width = [1], 0
    # The line that was right until the width grew last, by how much it then failed, and how long ago.
    older, failed, ago = [1], 1, 1
    for place in range(len(numbers)):
        gap = sum([factor * numbers[place - back] for back, factor in enumerate(line)])
        if gap == 0:
            ago += 1
            continue
        better = _combined(line, failed, older, -gap, ago)
        if 2 * width <= place:
            older, failed, ago, width = line, gap, 1, place + 1 - width
        else:
            ago += 1
        line = better
    # By Fatou's lemma the first number divides all others.
    line = line + [0] * (width + 1 - len(line))
    return tuple([-factor // line[0] for factor in line[1:width + 1]])


def _combined(one, times, other, often, later):
    """Return times one and often other, which stands so many places later, without a common factor."""
    longest = max(len(one), len(other) + later)
    found = [0] * longest
    for place, factor in enumerate(one):
        found[place] += times * factor
    for place, factor in enumerate(other):
        found[place + later] += often * factor
    common = 0
    for factor in found:
        common = gcd(common, factor)
    while found[-1] == 0:
        found.pop()
    return [factor // common for factor in found]


def rule_error(teller, book, value):
    """Return None if value is a rule that tells the needs, otherwise what is wrong first."""
    machine = need_machine(teller, book)
    if not _is_rule(value):
        return "form"
    first, factors = value
    # Both kinds of numbers keep a rule of as many as both have together; so does what they differ by.
    wanted = counted(machine, len(machine[0]) + len(first) - 1)
    for place, number in enumerate(wanted):
        # Up to here the rule's numbers are the needs.
        if place < len(first):
            found = first[place]
        else:
            found = sum([factor * wanted[place - 1 - back] for back, factor in enumerate(factors)])
        if found != number:
            return ("need", place)
    return None


def _is_rule(value):
    """Tell whether value is a pair of two tuples of as many integers, not too many."""
    if not isinstance(value, tuple) or len(value) != 2:
        return False
    first, factors = value
    if not isinstance(first, tuple) or not isinstance(factors, tuple):
        return False
    if not 1 <= len(first) <= MAX_RULE or len(first) != len(factors):
        return False
    return all([is_integer(number) for number in first + factors])


def same_need(one, book, other, another):
    """Return None if both have the same need for all numbers of letters, otherwise the least at which they differ."""
    if is_bare(book) or is_bare(another):
        raise Unfit()
    left, right = need_machine(one, book), need_machine(other, another)
    last = len(left[0]) + len(right[0]) - 1
    for number, (here, there) in enumerate(zip(counted(left, last), counted(right, last))):
        if here != there:
            return number
    return None
