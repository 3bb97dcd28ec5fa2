"""Pairs of a step and integers that tell rows which are never home."""

from nolothome.checks import check_row, check_wheels, is_integer, is_step, places_together
from nolothome.sums import sums
from nolothome.wheels import add_steps, all_steps, home_step, order


def teller(wheels, row):
    """Give a pair (step, integers) that tells a row, or None."""
    check_wheels(wheels)
    check_row(wheels, row)
    # No order is above all places together, so this lets all integers that tell the row.
    return find_teller(wheels, row, places_together(wheels))


def shows_teller(wheels, row, value):
    """Tell whether a value is what teller may return for a row."""
    check_wheels(wheels)
    check_row(wheels, row)
    if value is None:
        return find_teller(wheels, row, places_together(wheels)) is None
    if not isinstance(value, tuple) or len(value) != 2:
        return False
    step, integers = value
    if not is_step(wheels, step):
        return False
    telling = told_integers(wheels, step, row)
    return telling is not None and are_integers(integers, telling)


def few_teller(wheels, row):
    """Give the pair that tells a row that is never home and has few sums, None for all other rows."""
    if not has_few(wheels, row):
        return None
    return find_teller(wheels, row, most_few(row))


def has_few(wheels, row):
    """Tell whether a row is never home and has few sums."""
    reached = sums(wheels, row)
    return home_step(wheels) not in reached and len(reached) <= most_few(row)


def most_few(row):
    """Give how many sums are few at most; the argument is not checked."""
    return 2 * len(row) - 2


def find_teller(wheels, row, most):
    """Give the first pair that tells a row by integers that sum to at most so many, or None; nothing is checked."""
    for step in all_steps(wheels):
        integers = told_integers(wheels, step, row)
        if integers is not None and sum(integers) <= most:
            return (step, integers)
    return None


def told_integers(wheels, step, row):
    """Give the integers that, with a step, tell a row, or None; the arguments are not checked."""
    integers = integers_below(wheels, step, row)
    if integers is None or sum(integers) >= order(wheels, step):
        return None
    return integers


def integers_below(wheels, step, row):
    """Give the integers, from 1 on and below its order, by which a step has a row as multiples, or None."""
    numbers = numbers_of_multiples(wheels, step)
    if not all([multiple in numbers for multiple in row]):
        return None
    return tuple([numbers[multiple] for multiple in row])


def numbers_of_multiples(wheels, step):
    """Give for each multiple of a step that isn't home its integer, from 1 on and below the step's order."""
    home = home_step(wheels)
    numbers = {}
    reached = step
    while reached != home:
        numbers[reached] = len(numbers) + 1
        reached = add_steps(wheels, reached, step)
    return numbers


def are_integers(value, integers):
    """Tell whether a value is a tuple of integers; True is none, though Python finds it equal to 1."""
    if not isinstance(value, tuple) or len(value) != len(integers):
        return False
    for given, integer in zip(value, integers):
        if not is_integer(given, integer, integer):
            return False
    return True
