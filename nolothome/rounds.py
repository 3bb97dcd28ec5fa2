"""Whole rounds: rows that lead home, while no lot of them, neither void nor all, does."""

from nolothome.checks import check_long_row, check_places, check_row, check_steps, check_wheels, is_integer
from nolothome.errors import NotHome
from nolothome.longs import check_rows, count_partitions, list_partitions, told_rows, units
from nolothome.sums import home_lot, never_home
from nolothome.tellers import integers_below
from nolothome.wheels import home_step, total


def is_round(wheels, row):
    """Tell whether a row is a whole round."""
    check_wheels(wheels)
    check_row(wheels, row)
    if len(row) == 0 or total(wheels, row) != home_step(wheels):
        return False
    # If a lot with the last step leads home, so do the other steps, and these are a lot without it.
    return never_home(wheels, row[:-1])


def round_teller(places, row):
    """Give the pair of a step and integers that sum to the places, None for a row that is no whole round."""
    check_places(places)
    check_long_row(places, row, least_round(places))
    for unit in units(places):
        integers = integers_below((places,), (unit,), row)
        # So long a row is a whole round just if its integers by some unit sum to the places.
        if integers is not None and sum(integers) == places:
            return ((unit,), integers)
    return None


def count_rounds(places, steps):
    """Give how many ascending rows of so many steps round one wheel are whole rounds."""
    check_places(places)
    check_steps(steps, least_round(places))
    if steps > places:
        return 0
    return len(units(places)) * count_partitions(places - steps)[places - steps]


def round_rows(places, steps):
    """Give the ascending tuple of all ascending rows of so many steps that are whole rounds."""
    check_rows(count_rounds(places, steps))
    if steps > places:
        return ()
    return told_rows(places, steps, list_partitions(places - steps)[places - steps])


def parted(wheels, row):
    """Give an ascending tuple of lots that are whole rounds, each step of the row being in just one."""
    check_wheels(wheels)
    check_row(wheels, row)
    check_home(wheels, row)
    lots = []
    rest = list(range(len(row)))
    while rest:
        # A smallest lot that leads home has no smaller one in it, and the steps left lead home, too.
        found = home_lot(wheels, tuple([row[place] for place in rest]))
        lots.append(tuple([rest[at] for at in found]))
        rest = [place for at, place in enumerate(rest) if at not in found]
    return tuple(sorted(lots))


def shows_parted(wheels, row, value):
    """Tell whether a value is what parted may return for a row."""
    check_wheels(wheels)
    check_row(wheels, row)
    check_home(wheels, row)
    if not are_lots(value, len(row)):
        return False
    for lot in value:
        if not is_round(wheels, tuple([row[place] for place in lot])):
            return False
    return True


def least_round(places):
    """Give how many steps are at least half the places, which are not checked, and one and a half more."""
    return places // 2 + 2


def check_home(wheels, row):
    """Raise NotHome if the sum of a row is not home."""
    if total(wheels, row) != home_step(wheels):
        raise NotHome()


def are_lots(value, many):
    """Tell whether a value is an ascending tuple of lots, each of so many places being in just one."""
    if not isinstance(value, tuple):
        return False
    places = []
    for lot in value:
        if not is_lot(lot, many):
            return False
        places.extend(lot)
    return sorted(places) == list(range(many)) and sorted(value) == list(value)


def is_lot(value, many):
    """Tell whether a value is a lot of a row of so many steps."""
    if not isinstance(value, tuple):
        return False
    least = 0
    for place in value:
        if not is_integer(place, least, many - 1):
            return False
        least = place + 1
    return True
