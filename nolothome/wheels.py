"""Wheels and the steps that turn them."""

from math import gcd, lcm

from nolothome.checks import check_number, check_row, check_step, check_wheels, places_together
from nolothome.errors import BadWheels

MOST_TIMES = 10 ** 9


def is_wheels(value):
    """Tell whether a value is wheels."""
    try:
        check_wheels(value)
    except BadWheels:
        return False
    return True


def size(wheels):
    """Give the product of the places of wheels."""
    check_wheels(wheels)
    return places_together(wheels)


def multiple(wheels, step, number):
    """Give the step that is so many times a step."""
    check_wheels(wheels)
    check_step(wheels, step)
    check_number(number, 0, MOST_TIMES)
    return tuple([(turn * number) % places for turn, places in zip(step, wheels)])


def order(wheels, step):
    """Give how often a step must be done, at least once, to be home."""
    check_wheels(wheels)
    check_step(wheels, step)
    times = 1
    for turn, places in zip(step, wheels):
        # One wheel stands as at first after each so many steps.
        times = lcm(times, places // gcd(turn, places))
    return times


def total(wheels, row):
    """Give the step of all steps of a row together."""
    check_wheels(wheels)
    check_row(wheels, row)
    reached = home_step(wheels)
    for step in row:
        reached = add_steps(wheels, reached, step)
    return reached


def home_step(wheels):
    """Give the step of nothing but 0 for wheels, which are not checked."""
    return (0,) * len(wheels)


def add_steps(wheels, first, second):
    """Give the step of two steps together; the arguments are not checked."""
    return tuple([(one + other) % places for one, other, places in zip(first, second, wheels)])


def all_steps(wheels):
    """Give the list of all steps of wheels, which are not checked."""
    steps = [()]
    for places in wheels:
        steps = [(*step, turn) for step in steps for turn in range(places)]
    return steps
