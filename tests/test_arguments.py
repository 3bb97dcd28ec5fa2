"""Point 1: which error is raised if several apply, for all functions."""

import unittest
from itertools import product

from helper import (
    ANY_VALUES, WRONG_COUNTS, WRONG_NUMBERS, WRONG_PLACES, WRONG_STEPS, WRONG_WHEELS, answer, error, fault, wrong_rows,
)
from nolothome.longs import count_long, long_rows, long_teller, most_steps, partitions
from nolothome.rounds import count_rounds, is_round, parted, round_rows, round_teller, shows_parted
from nolothome.sames import has_same, same_lot, sizes_home
from nolothome.sums import count_lots, home_lot, never_home, smallest_lot, sums
from nolothome.tellers import few_teller, has_few, shows_teller, teller
from nolothome.walks import Walk
from nolothome.wheels import multiple, order, size, total
from nolothome.wheeltexts import read_row, write_row


def walk(wheels):
    """What a new walk tells of itself; two walks are never alike."""
    new = Walk(wheels)
    return (new.row, new.place, new.places)


def walk_with(wheels, step):
    """What a walk with a step tells of itself."""
    new = Walk(wheels)
    new.take(step)
    return (new.row, new.place, new.places)


def full_walk_with(wheels, step):
    """Take a step for which there is no room."""
    new = Walk(wheels)
    for _ in range(40):
        new.take((0,) * len(wheels))
    new.take(step)


FUNCTIONS = [
    (size, ("wheels",)), (multiple, ("wheels", "step", "number")), (order, ("wheels", "step")),
    (total, ("wheels", "row")), (sums, ("wheels", "row")), (never_home, ("wheels", "row")),
    (home_lot, ("wheels", "row")), (smallest_lot, ("wheels", "row", "step")), (count_lots, ("wheels", "row", "step")),
    (teller, ("wheels", "row")), (few_teller, ("wheels", "row")), (has_few, ("wheels", "row")),
    (long_teller, ("places", "long row")), (count_long, ("places", "long steps")), (partitions, ("count",)),
    (most_steps, ("places",)), (long_rows, ("places", "long steps")), (is_round, ("wheels", "row")),
    (round_teller, ("places", "long row")), (count_rounds, ("places", "long steps")),
    (round_rows, ("places", "long steps")), (parted, ("wheels", "home row")),
    (same_lot, ("places", "one row")), (has_same, ("places", "one row")), (sizes_home, ("places", "one row")),
    (walk, ("wheels",)), (walk_with, ("wheels", "step")), (write_row, ("wheels", "row")), (read_row, ("text",)),
]
# Functions that tell of a last argument, which may be any value, whether it is what another may return.
SHOWING = [(shows_teller, ("wheels", "row")), (shows_parted, ("wheels", "home row"))]
ROW = ((3, 5), (0, 0), (2, 3), (3, 5))
RIGHT = {
    "wheels": (4, 6), "step": (3, 5), "number": 7, "row": ROW, "home row": ROW + ((0, 5),), "places": 7,
    "long row": ((3,), (3,), (6,), (3,), (3,)), "long steps": 6, "count": 9, "one row": ((3,), (0,), (4,), (3,)),
    "text": "wheels 4 6\nsteps 3,5 0,0",
}
ONE_ROWS = [
    (None, None), (True, None), (0, None), ("3", None), ([], None), ([(3,)] * 5, None), ({}, None), ((None,), 0),
    (((3,),) * 41, None), (((3,),) * 4 + ((7,),), 4), (((3,), 3, (3,)), 1), (((3,), (True,)), 1), (((3, 3),) * 5, 0),
]
WRONG_TEXTS = [None, True, False, 0, 7, 10 ** 30, (), ("wheels 7",), [], ["wheels 7"], {}, {"wheels 7": "steps 1"}]
WRONG = {
    "wheels": [(value, fault("BadWheels", index=index)) for value, index in WRONG_WHEELS],
    "step": [(value, fault("BadStep")) for value in WRONG_STEPS],
    "number": [(value, fault("BadNumber")) for value in WRONG_NUMBERS],
    "row": [(value, fault("BadRow", index=index)) for value, index in wrong_rows()],
    "places": [(value, fault("BadNumber")) for value in WRONG_PLACES],
    "count": [(value, fault("BadNumber")) for value in WRONG_COUNTS],
    "long steps": [(value, fault("BadNumber")) for value in WRONG_COUNTS + [0, 1, 3]],
    "one row": [(value, fault("BadRow", index=index)) for value, index in ONE_ROWS],
    "text": [(value, fault("BadText")) for value in WRONG_TEXTS],
}
# A row that is too short or does not lead home is wrong behind a value that is no row.
WRONG["home row"] = WRONG["row"] + [(ROW, fault("NotHome")), (((3, 5),), fault("NotHome"))]
WRONG["long row"] = WRONG["one row"] + [
    ((), fault("BadNumber")), (((0,),), fault("BadNumber")), (((3,),) * 3, fault("BadNumber")),
]


class ArgumentsTest(unittest.TestCase):
    def test_right_arguments_raise_nothing_and_stay_as_they_are(self):
        for function, kinds in FUNCTIONS:
            with self.subTest(function=function.__name__):
                answer(function, *[RIGHT[kind] for kind in kinds])

    def test_one_wrong_argument(self):
        for function, kinds in FUNCTIONS:
            for at, kind in enumerate(kinds):
                for value, expected in WRONG[kind]:
                    with self.subTest(function=function.__name__, kind=kind, value=value):
                        arguments = [RIGHT[other] for other in kinds]
                        arguments[at] = value
                        self.assertEqual(error(function, *arguments), expected)

    def test_several_wrong_arguments_raise_the_error_of_the_leftmost(self):
        for function, kinds in FUNCTIONS:
            for wrong in product((False, True), repeat=len(kinds)):
                if sum(wrong) < 2:
                    continue
                leftmost = kinds[wrong.index(True)]
                for at, (value, expected) in enumerate(WRONG[leftmost]):
                    arguments = []
                    for place, kind in enumerate(kinds):
                        chosen = WRONG[kind][(at * 7 + place) % len(WRONG[kind])][0] if wrong[place] else RIGHT[kind]
                        arguments.append(chosen)
                    arguments[wrong.index(True)] = value
                    with self.subTest(function=function.__name__, arguments=arguments):
                        self.assertEqual(error(function, *arguments), expected)

    def test_a_last_argument_of_any_value_raises_nothing(self):
        for function, kinds in SHOWING:
            for value in ANY_VALUES + [None]:
                with self.subTest(function=function.__name__, value=value):
                    self.assertIsInstance(answer(function, *[RIGHT[kind] for kind in kinds], value), bool)

    def test_wrong_arguments_before_a_last_one_of_any_value(self):
        for function, (first, second) in SHOWING:
            for last in (None, (), ((3, 5), (1,)), [], {}, True):
                for at, (value, expected) in enumerate(WRONG[first]):
                    other = WRONG[second][at % len(WRONG[second])][0]
                    self.assertEqual(error(function, value, RIGHT[second], last), expected)
                    self.assertEqual(error(function, value, other, last), expected)
                for value, expected in WRONG[second]:
                    self.assertEqual(error(function, RIGHT[first], value, last), expected)

    def test_too_many_behind_the_errors_of_all_arguments(self):
        self.assertEqual(error(full_walk_with, (4, 6), (3, 5)), fault("TooMany", most=40))
        for value, expected in WRONG["step"]:
            self.assertEqual(error(full_walk_with, (4, 6), value), expected)
        for function in (long_rows, round_rows):
            self.assertEqual(error(function, 400, 202), fault("TooMany", most=5000))
            for value, expected in WRONG["places"]:
                self.assertEqual(error(function, value, 202), expected)
            for value, expected in WRONG["count"]:
                self.assertEqual(error(function, 400, value), expected)

    def test_steps_are_those_of_the_wheels_passed(self):
        self.assertEqual(error(order, (4,), (3, 5)), fault("BadStep"))
        self.assertEqual(error(order, (4, 5), (3, 5)), fault("BadStep"))
        self.assertEqual(error(multiple, (4, 6, 2), (3, 5), 1), fault("BadStep"))
        self.assertEqual(error(total, (6, 4), ((3, 3), (3, 5))), fault("BadRow", index=1))
        self.assertEqual(error(sums, (4,), ((3,), (3, 5))), fault("BadRow", index=1))
        self.assertEqual(error(count_lots, (4,), ((3,),), (4,)), fault("BadStep"))
        self.assertEqual(error(teller, (4,), ((3,), (4,))), fault("BadRow", index=1))
        self.assertEqual(error(is_round, (6, 4), ((3, 3), (3, 5))), fault("BadRow", index=1))
        self.assertEqual(error(long_teller, 4, ((3,), (3,), (4,))), fault("BadRow", index=2))
        self.assertEqual(error(same_lot, 4, ((3,), (4,))), fault("BadRow", index=1))
        self.assertEqual(error(walk_with, (6, 4), (3, 5)), fault("BadStep"))
        self.assertEqual(error(write_row, (6, 4), ((3, 3), (3, 5))), fault("BadRow", index=1))


if __name__ == "__main__":
    unittest.main()
