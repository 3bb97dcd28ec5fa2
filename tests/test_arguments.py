"""Point 1: which error is raised if several apply, for all functions of wheels and sums."""

import unittest
from itertools import product

from helper import WRONG_NUMBERS, WRONG_STEPS, WRONG_WHEELS, answer, error, fault, wrong_rows
from nolothome.sums import count_lots, home_lot, never_home, smallest_lot, sums
from nolothome.wheels import multiple, order, size, total

FUNCTIONS = [
    (size, ("wheels",)), (multiple, ("wheels", "step", "number")), (order, ("wheels", "step")),
    (total, ("wheels", "row")), (sums, ("wheels", "row")), (never_home, ("wheels", "row")),
    (home_lot, ("wheels", "row")), (smallest_lot, ("wheels", "row", "step")), (count_lots, ("wheels", "row", "step")),
]
RIGHT = {"wheels": (4, 6), "step": (3, 5), "number": 7, "row": ((3, 5), (0, 0), (2, 3), (3, 5))}
WRONG = {
    "wheels": [(value, fault("BadWheels", index=index)) for value, index in WRONG_WHEELS],
    "step": [(value, fault("BadStep")) for value in WRONG_STEPS],
    "number": [(value, fault("BadNumber")) for value in WRONG_NUMBERS],
    "row": [(value, fault("BadRow", index=index)) for value, index in wrong_rows()],
}


class ArgumentsTest(unittest.TestCase):
    def test_right_arguments_raise_nothing_and_stay_as_they_are(self):
        for function, kinds in FUNCTIONS:
            with self.subTest(function=function.__name__):
                answer(function, *[RIGHT[kind] for kind in kinds])

    def test_one_wrong_argument(self):
        for function, kinds in FUNCTIONS:
            for at, kind in enumerate(kinds):
                for value, expected in WRONG[kind]:
                    with self.subTest(function=function.__name__, kind=kind, value=value):
                        arguments = [RIGHT[other] for other in kinds]
                        arguments[at] = value
                        self.assertEqual(error(function, *arguments), expected)

    def test_several_wrong_arguments_raise_the_error_of_the_leftmost(self):
        for function, kinds in FUNCTIONS:
            for wrong in product((False, True), repeat=len(kinds)):
                if sum(wrong) < 2:
                    continue
                leftmost = kinds[wrong.index(True)]
                for at, (value, expected) in enumerate(WRONG[leftmost]):
                    arguments = []
                    for place, kind in enumerate(kinds):
                        chosen = WRONG[kind][(at * 7 + place) % len(WRONG[kind])][0] if wrong[place] else RIGHT[kind]
                        arguments.append(chosen)
                    arguments[wrong.index(True)] = value
                    with self.subTest(function=function.__name__, arguments=arguments):
                        self.assertEqual(error(function, *arguments), expected)

    def test_steps_are_those_of_the_wheels_passed(self):
        self.assertEqual(error(order, (4,), (3, 5)), fault("BadStep"))
        self.assertEqual(error(order, (4, 5), (3, 5)), fault("BadStep"))
        self.assertEqual(error(multiple, (4, 6, 2), (3, 5), 1), fault("BadStep"))
        self.assertEqual(error(total, (6, 4), ((3, 3), (3, 5))), fault("BadRow", index=1))
        self.assertEqual(error(sums, (4,), ((3,), (3, 5))), fault("BadRow", index=1))
        self.assertEqual(error(count_lots, (4,), ((3,),), (4,)), fault("BadStep"))


if __name__ == "__main__":
    unittest.main()
