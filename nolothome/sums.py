"""The sums of the lots of a row."""

from nolothome.checks import check_row, check_step, check_wheels
from nolothome.wheels import add_steps, home_step


def sums(wheels, row):
    """Give the ascending tuple of the sums of all lots that are not void."""
    check_wheels(wheels)
    check_row(wheels, row)
    return tuple(sorted(smallest_lots(wheels, row)))


def never_home(wheels, row):
    """Tell whether no lot, except the void one, has home as its sum."""
    check_wheels(wheels)
    check_row(wheels, row)
    return home_step(wheels) not in smallest_lots(wheels, row)


def home_lot(wheels, row):
    """Give the least of the smallest lots, not void, whose sum is home, or None."""
    check_wheels(wheels)
    check_row(wheels, row)
    return smallest_lots(wheels, row).get(home_step(wheels))


def smallest_lot(wheels, row, goal):
    """Give the least of the smallest lots, not void, whose sum is the goal, or None."""
    check_wheels(wheels)
    check_row(wheels, row)
    check_step(wheels, goal)
    return smallest_lots(wheels, row).get(goal)


def count_lots(wheels, row, goal):
    """Give how many lots, the void one too, have the goal as their sum."""
    check_wheels(wheels)
    check_row(wheels, row)
    check_step(wheels, goal)
    counts = {home_step(wheels): 1}
    for step in row:
        counts = counts_with(wheels, counts, step)
    return counts.get(goal, 0)


def smallest_lots(wheels, row):
    """Give for each sum of lots that are not void the least of the smallest; nothing is checked."""
    lots = {}
    # From the last step to the first: the place that comes in is below all places of the lots.
    for place in reversed(range(len(row))):
        lots = lots_with(wheels, lots, place, row[place])
    return lots


def lots_with(wheels, lots, place, step):
    """Give the lots for each sum when a step comes in, at a place below all of theirs."""
    more = {reached: lots[reached] for reached in lots}
    more[step] = (place,)
    for reached in lots:
        goal = add_steps(wheels, reached, step)
        lot = (place, *lots[reached])
        # Of two lots of one length the new one is less, since its first place is.
        if goal not in more or len(lot) <= len(more[goal]):
            more[goal] = lot
    return more


def counts_with(wheels, counts, step):
    """Give the numbers of lots for each sum when a step comes in."""
    more = {reached: counts[reached] for reached in counts}
    for reached in counts:
        goal = add_steps(wheels, reached, step)
        more[goal] = more.get(goal, 0) + counts[reached]
    return more
