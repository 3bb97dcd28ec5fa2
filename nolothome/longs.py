"""Rows round one wheel that are never home and have more than half as many steps as places."""

from math import gcd

from nolothome.checks import check_long_row, check_number, check_places, check_steps
from nolothome.errors import TooMany
from nolothome.tellers import find_teller

MOST_NUMBER = 400
MOST_ROWS = 5000


def long_teller(places, row):
    """Give the pair that tells a row of more than half as many steps as places, None if it isn't never home."""
    check_places(places)
    check_long_row(places, row, least_long(places))
    # So long a row is never home only if a pair tells it, so there is no need to look at its sums.
    return find_teller((places,), row, places)


def count_long(places, steps):
    """Give how many ascending rows of so many steps round one wheel are never home."""
    check_places(places)
    check_steps(steps, least_long(places))
    if steps >= places:
        return 0
    return len(units(places)) * sum(count_partitions(places - 1 - steps))


def partitions(number):
    """Give how many ways there are to write a number as a sum of integers from 1 on, in no order."""
    check_number(number, 0, MOST_NUMBER)
    return count_partitions(number)[number]


def long_rows(places, steps):
    """Give the ascending tuple of all ascending rows of so many steps that are never home."""
    check_rows(count_long(places, steps))
    if steps >= places:
        return ()
    ways = []
    for some in list_partitions(places - 1 - steps):
        ways.extend(some)
    return told_rows(places, steps, ways)


def most_steps(places):
    """Give how many steps round one wheel are never home at most."""
    check_places(places)
    return places - 1


def least_long(places):
    """Give how many steps are more than half the places, which are not checked."""
    return places // 2 + 1


def check_rows(many):
    """Raise TooMany if there are more rows than are let."""
    if many > MOST_ROWS:
        raise TooMany(MOST_ROWS)


def units(places):
    """Give the integers from 1 on, below the places, that have no divisor but 1 with them."""
    return [number for number in range(1, places) if gcd(number, places) == 1]


def count_partitions(most):
    """Give the list of how many partitions each number from 0 to the most has."""
    counts = [1] + [0] * most
    for part in range(1, most + 1):
        for number in range(part, most + 1):
            counts[number] = counts[number] + counts[number - part]
    return counts


def list_partitions(most):
    """Give the list of the partitions, as lists of ascending tuples, of each number from 0 to the most."""
    lists = [[()]] + [[] for _ in range(most)]
    for part in range(1, most + 1):
        for number in range(part, most + 1):
            lists[number] = lists[number] + [(*parts, part) for parts in lists[number - part]]
    return lists


def told_rows(places, steps, ways):
    """Give the ascending tuple of the rows of so many multiples of units, a row for each unit and partition."""
    rows = [told_row(places, steps, unit, parts) for unit in units(places) for parts in ways]
    return tuple(sorted(rows))


def told_row(places, steps, unit, parts):
    """Give the ascending row of the unit so many times, some of these times with a part of it added."""
    row = [(unit,)] * (steps - len(parts)) + [(unit * (part + 1) % places,) for part in parts]
    return tuple(sorted(row))
