"""Lots round one wheel that lead home, by how many steps they have."""

from nolothome.checks import check_places, check_row


def same_lot(places, row):
    """Give the least lot of just as many steps as places whose sum is home, or None."""
    check_places(places)
    check_row((places,), row)
    # There is no lot of so many steps in a shorter row, so there is no need to look at its lots.
    if len(row) < places:
        return None
    return least_lots(places, row).get((places, 0))


def has_same(places, row):
    """Tell whether there is a lot of just as many steps as places whose sum is home."""
    return places in sizes_home(places, row)


def sizes_home(places, row):
    """Give the ascending tuple of the numbers of steps of all lots, not void, whose sum is home."""
    check_places(places)
    check_row((places,), row)
    sizes = sizes_by_sum(places, row)[0]
    return tuple([many for many in range(1, len(row) + 1) if (sizes >> many) & 1])


def least_lots(places, row):
    """Give for each pair of a number of steps and a sum, as an integer, the least lot; nothing is checked."""
    lots = {(0, 0): ()}
    # From the last step to the first: the place that comes in is below all places of the lots.
    for place in reversed(range(len(row))):
        lots = lots_with_place(places, lots, place, row[place][0])
    return lots


def lots_with_place(places, lots, place, turn):
    """Give the least lots when a step comes in, at a place below all of theirs."""
    more = {key: lots[key] for key in lots}
    for many, reached in lots:
        # Of two lots of one size the new one is less, since its first place is.
        more[(many + 1, (reached + turn) % places)] = (place, *lots[(many, reached)])
    return more


def sizes_by_sum(places, row):
    """Give for each sum from 0 on the sizes of the lots with it, the void one too, as bits of an integer."""
    sizes = [1] + [0] * (places - 1)
    for step in row:
        # A step makes all lots of a sum longer by one, which is one shift of their bits.
        sizes = [sizes[at] | (sizes[(at - step[0]) % places] << 1) for at in range(places)]
    return sizes
