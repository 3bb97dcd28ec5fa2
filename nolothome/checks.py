"""What arguments must be: checks that raise the error which the document names."""

from nolothome.errors import BadNumber, BadRow, BadStep, BadWheels

MOST_WHEELS = 3
LEAST_PLACES = 2
MOST_PLACES = 400
MOST_STEPS = 40
# A number of steps may be told by itself, without a row of so many.
MOST_STEPS_TOLD = 400


def is_integer(value, least, most):
    """Tell whether a value is an integer from least to most."""
    # Python counts True and False among the integers, the document does not.
    if not isinstance(value, int) or isinstance(value, bool):
        return False
    return least <= value <= most


def places_together(wheels):
    """Give the product of the places of wheels, which are not checked."""
    together = 1
    for places in wheels:
        together = together * places
    return together


def check_wheels(value):
    """Raise BadWheels if a value is no wheels."""
    if not isinstance(value, tuple) or not 1 <= len(value) <= MOST_WHEELS:
        raise BadWheels(None)
    for index, places in enumerate(value):
        if not is_integer(places, LEAST_PLACES, MOST_PLACES):
            raise BadWheels(index)
    if places_together(value) > MOST_PLACES:
        raise BadWheels(None)


def is_step(wheels, value):
    """Tell whether a value is a step of wheels, which are not checked."""
    if not isinstance(value, tuple) or len(value) != len(wheels):
        return False
    for turn, places in zip(value, wheels):
        if not is_integer(turn, 0, places - 1):
            return False
    return True


def check_step(wheels, value):
    """Raise BadStep if a value is no step of wheels, which are not checked."""
    if not is_step(wheels, value):
        raise BadStep()


def check_row(wheels, value):
    """Raise BadRow if a value is no row of steps of wheels, which are not checked."""
    if not isinstance(value, tuple) or len(value) > MOST_STEPS:
        raise BadRow(None)
    for index, step in enumerate(value):
        if not is_step(wheels, step):
            raise BadRow(index)


def check_number(value, least, most):
    """Raise BadNumber if a value is no integer from least to most."""
    if not is_integer(value, least, most):
        raise BadNumber()


def check_places(value):
    """Raise BadNumber if a value is not the places of one wheel."""
    check_number(value, LEAST_PLACES, MOST_PLACES)


def check_steps(value, least):
    """Raise BadNumber if a value is no number of steps that is at least so many."""
    check_number(value, least, MOST_STEPS_TOLD)


def check_long_row(places, value, least):
    """Raise BadRow or BadNumber if a value is no row round one wheel of at least so many steps."""
    check_row((places,), value)
    check_number(len(value), least, MOST_STEPS)
