"""What the tests share: wheels, rows, wrong values, and lots worked out one by one."""

from itertools import combinations, combinations_with_replacement, product
from math import gcd

from nolothome.errors import StepError

# Values of every kind, none of which is wheels, with the index that BadWheels tells.
WRONG_WHEELS = [
    (None, None), (True, None), (False, None), (0, None), (4, None), (-4, None), (10 ** 30, None),
    ("", None), ("46", None), ([], None), ([4], None), ([4, 6], None), ({}, None), ({4: 6}, None),
    ((), None), ((2, 2, 2, 2), None), ((1, 1, 1, 1), None), ((True, None, "a", [], {}), None),
    ((20, 21), None), ((2, 201), None), ((201, 2), None), ((2, 2, 101), None), ((2, 3, 67), None),
    ((400, 2), None), ((400, 400), None), ((400, 400, 400), None),
    ((0,), 0), ((1,), 0), ((-4,), 0), ((401,), 0), ((10 ** 30,), 0), ((True,), 0), ((False,), 0),
    ((None,), 0), (("4",), 0), (((4,),), 0), (([4],), 0), (({},), 0),
    ((4, 1), 1), ((4, 401), 1), ((1, 1), 0), ((4, True), 1), ((4, None), 1), ((4, "6"), 1),
    ((4, (6,)), 1), ((4, [6]), 1), ((4, {6: 6}), 1), ((None, 401, True), 0),
    ((4, 6, 1), 2), ((4, 6, 0), 2), ((4, 6, -2), 2), ((4, 6, False), 2), ((4, None, 1), 1),
    ((20, 21, 1), 2), ((400, 400, 401), 2), ((400, 400, True), 2), ((400, 401, 1), 1),
]

# Values of every kind, none of which is a step of the wheels (4, 6).
WRONG_STEPS = [
    None, True, False, 0, 3, -1, 10 ** 30, "", "35", (), [], [3, 5], {}, {3: 5},
    (3,), (0,), (3, 5, 0), (0, 0, 0), (4, 5), (3, 6), (4, 6), (-1, 5), (3, -1), (10 ** 30, 0), (0, 10 ** 30),
    (True, 5), (3, False), (None, 5), (3, None), ("3", 5), (3, "5"), ((3,), 5), (3, (5,)), ((3, 5),),
    ([3], 5), (3, [5]), (3, {}), ({}, 5),
]

# Values of every kind, none of which is an integer from 0 to 10 ** 9.
WRONG_NUMBERS = [
    None, True, False, -1, -10 ** 30, 10 ** 9 + 1, 10 ** 30, "", "7", (), (7,), [], [7], {}, {7: 7},
]

# Values of every kind for an argument that lets any, none of them what a function may return.
ANY_VALUES = [
    True, False, 0, 1, -1, 10 ** 30, "", "3", "(3,)", [], [()], [[]], {}, {0: 0}, {"step": (3,)}, (None,), (True,),
    (0,), ("",), ([],), ([0],), ({},), ({0: ()},), ((), ()), ((), (), ()), (None, None), (True, True), (1, 1),
    ("a", "b"), ([], []), ({}, {}), ((None,), (None,)), ((True,), (False,)), (([],), ([],)), (({},), ({},)),
    (((),), ((),)), ((0,), None), ((1,), True), ((1,), 10 ** 30), ((1,), "1"), ((1,), []), ((1,), {}), (None, (1,)),
    ([1], (1,)), ({1: 1}, (1,)), ("1", (1,)), ((10 ** 30,), (10 ** 30,)), ((-1,), (-1,)), (((((),),),),), [(1,), (1,)],
    {(1,): (1,)},
]
# Places of one wheel, and numbers of 0 to 400, that are none.
WRONG_PLACES = [
    None, True, False, 0, 1, -1, -7, 401, 10 ** 30, "", "7", (), (7,), [], [7], {}, {7: 7}, ((7,),), (None, True),
]
WRONG_COUNTS = [None, True, False, -1, -400, 401, 10 ** 30, "", "7", (), (7,), [], [7], {}, {7: 7}, ([],), (True,)]


def wrong_rows():
    """Values of every kind, none of which is a row of the wheels (4, 6), with the index that BadRow tells."""
    step = (3, 5)
    rows = [
        (None, None), (True, None), (False, None), (0, None), (3, None), (10 ** 30, None), ("", None), ("35", None),
        ([], None), ([step], None), ({}, None), ({step: step}, None),
        ((step,) * 41, None), ((None,) * 41, None), ((None,) + (step,) * 40, None), ((step,) * 100, None),
        ((3, 5), 0), ((step, 5), 1), ((step,) * 39 + ((4, 5),), 39), ((step,) * 39 + (None,), 39),
        ((step, (3, 6), None), 1), ((step, step, (4, 0), (0, 6)), 2), (((4, 0), step, (0, 6)), 0),
    ]
    for wrong in WRONG_STEPS:
        rows = rows + [((wrong,), 0), ((step, wrong), 1), ((step, wrong, step, wrong), 1)]
    return rows


def answer(function, *arguments):
    """Call a function twice: it modifies nothing, and its answers are alike, also in the kinds of values."""
    before = repr(arguments)
    first = function(*arguments)
    second = function(*arguments)
    if repr(arguments) != before:
        raise AssertionError("arguments modified: " + before)
    if repr(first) != repr(second):
        raise AssertionError("two answers: " + before)
    return first


def error(function, *arguments):
    """The name and the fields of the error that a call raises; it modifies nothing."""
    before = repr(arguments)
    try:
        function(*arguments)
    except StepError as raised:
        if repr(arguments) != before:
            raise AssertionError("arguments modified: " + before)
        return (type(raised).__name__, repr(vars(raised)))
    raise AssertionError("no error: " + before)


def fault(name, **fields):
    """What the function error answers for an error of a name with fields."""
    return (name, repr(fields))


def all_steps(wheels):
    """All steps of wheels, ascending."""
    return list(product(*[range(places) for places in wheels]))


def all_lots(row):
    """All lots of a row, the void one first, the smaller ones before, the least ones before of one length."""
    lots = []
    for many in range(len(row) + 1):
        lots = lots + list(combinations(range(len(row)), many))
    return lots


def sum_of(wheels, row, lot):
    """The sum of a lot, wheel by wheel."""
    return tuple([sum([row[place][wheel] for place in lot]) % wheels[wheel] for wheel in range(len(wheels))])


def lots_by_sum(wheels, row):
    """A dict from each sum to all lots with it, the void one too, in the order of all_lots."""
    found = {}
    for lot in all_lots(row):
        found.setdefault(sum_of(wheels, row, lot), []).append(lot)
    return found


def turn(wheels, step, number):
    """So many times a step, wheel by wheel."""
    return tuple([at * number % places for at, places in zip(step, wheels)])


def times_home(wheels, step):
    """How often a step must be done to be home, turned one by one."""
    number = 1
    while any(turn(wheels, step, number)):
        number = number + 1
    return number


def leads_home(wheels, row, lots):
    """Whether one of the lots has home as its sum."""
    return any(not any(sum_of(wheels, row, lot)) for lot in lots)


def is_whole_round(wheels, row):
    """Whether a row is a whole round, by all its lots."""
    every = all_lots(row)
    return bool(row) and leads_home(wheels, row, every[-1:]) and not leads_home(wheels, row, every[1:-1])


def reached_numbers(places, turns):
    """The sums of all lots that are not void round one wheel, as a set of integers, from turns as integers."""
    reached = set()
    for at in turns:
        reached = reached | {at} | {(one + at) % places for one in reached}
    return reached


def ascending_turns(places, steps):
    """All ascending rows of so many steps round one wheel, as tuples of integers."""
    return combinations_with_replacement(range(places), steps)


def as_row(turns):
    """The row of steps round one wheel that has these integers."""
    return tuple([(at,) for at in turns])


def units_of(places):
    """The integers from 1 on, below places, without a divisor but 1 with them."""
    return [number for number in range(1, places) if gcd(number, places) == 1]


def euler_partitions(most):
    """The numbers of partitions of 0 to most, by Euler's pentagonal numbers."""
    counts = [1]
    for number in range(1, most + 1):
        count = 0
        for k in range(1, number + 1):
            sign = 1 if k % 2 else -1
            for pentagonal in (k * (3 * k - 1) // 2, k * (3 * k + 1) // 2):
                if pentagonal <= number:
                    count = count + sign * counts[number - pentagonal]
        counts.append(count)
    return counts


def told_by(pairs, row):
    """The pair that tells a row in any order, or None, by a dict from ascending rows to all pairs that tell them."""
    ascending = tuple(sorted(row))
    if ascending not in pairs:
        return None
    step, integers = pairs[ascending][0]
    integer_of = dict(zip(ascending, integers))
    return (step, tuple([integer_of[at] for at in row]))


def are_ascending(rows, steps):
    """Whether rows are a tuple, unlike and in order, of ascending tuples of so many steps."""
    if type(rows) is not tuple or any([before >= behind for before, behind in zip(rows, rows[1:])]):
        return False
    return all([type(row) is tuple and len(row) == steps and list(row) == sorted(row) for row in rows])
