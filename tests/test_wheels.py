"""Point 2: wheels, steps and rows."""

import unittest
from math import prod

from helper import WRONG_WHEELS, all_steps, answer, error, fault, times_home
from nolothome.wheels import is_wheels, multiple, order, size, total

RIGHT_WHEELS = [
    (2,), (3,), (399,), (400,), (2, 2), (4, 6), (6, 4), (20, 20), (2, 200), (200, 2), (133, 3),
    (2, 2, 2), (4, 10, 10), (2, 2, 100), (100, 2, 2), (7, 3, 19),
]


class ExamplesTest(unittest.TestCase):
    def test_answers(self):
        self.assertEqual(size((4, 6)), 24)
        self.assertEqual(multiple((4, 6), (3, 5), 7), (1, 5))
        self.assertEqual(order((4, 6), (2, 2)), 6)
        self.assertEqual(total((4, 6), ((3, 5), (3, 5))), (2, 4))
        self.assertIs(is_wheels((20, 21)), False)

    def test_error(self):
        self.assertEqual(error(order, (4, 6), (4, 0)), fault("BadStep"))


class WheelsTest(unittest.TestCase):
    def test_is_wheels(self):
        for wheels in RIGHT_WHEELS:
            with self.subTest(wheels=wheels):
                self.assertIs(answer(is_wheels, wheels), True)

    def test_is_not_wheels(self):
        for value, _ in WRONG_WHEELS:
            with self.subTest(value=value):
                self.assertIs(answer(is_wheels, value), False)

    def test_size(self):
        for wheels in RIGHT_WHEELS:
            with self.subTest(wheels=wheels):
                self.assertEqual(answer(size, wheels), prod(wheels))

    def test_size_of_wrong_wheels(self):
        for value, index in WRONG_WHEELS:
            with self.subTest(value=value):
                self.assertEqual(error(size, value), fault("BadWheels", index=index))


class StepsTest(unittest.TestCase):
    def test_multiple_is_the_step_again_and_again(self):
        for wheels in ((2,), (7,), (4, 6), (2, 2, 3)):
            for step in all_steps(wheels):
                place = (0,) * len(wheels)
                for number in range(15):
                    with self.subTest(wheels=wheels, step=step, number=number):
                        self.assertEqual(answer(multiple, wheels, step, number), place)
                    place = tuple([(at + turn) % places for at, turn, places in zip(place, step, wheels)])

    def test_multiple_by_the_edges(self):
        self.assertEqual(multiple((4, 6), (3, 5), 0), (0, 0))
        self.assertEqual(multiple((4, 6), (3, 5), 1), (3, 5))
        self.assertEqual(multiple((7,), (3,), 10 ** 9), (3 * 10 ** 9 % 7,))
        self.assertEqual(multiple((400,), (399,), 10 ** 9 - 1), (1,))
        self.assertEqual(multiple((3, 7, 19), (2, 6, 18), 10 ** 9), (2, 1, 1))
        for number in (-1, 10 ** 9 + 1):
            self.assertEqual(error(multiple, (7,), (3,), number), fault("BadNumber"))

    def test_steps_go_up_to_one_less_than_the_places(self):
        self.assertEqual(multiple((400,), (399,), 2), (398,))
        self.assertEqual(error(multiple, (400,), (400,), 2), fault("BadStep"))
        self.assertEqual(error(multiple, (400,), (-1,), 2), fault("BadStep"))

    def test_order_of_all_steps(self):
        for wheels in ((2,), (12,), (4, 6), (2, 2, 3), (8, 9), (2, 4, 8), (3, 4, 5)):
            for step in all_steps(wheels):
                with self.subTest(wheels=wheels, step=step):
                    self.assertEqual(answer(order, wheels, step), times_home(wheels, step))

    def test_order_at_the_edges(self):
        self.assertEqual(order((400,), (0,)), 1)
        self.assertEqual(order((400,), (1,)), 400)
        self.assertEqual(order((400,), (200,)), 2)
        self.assertEqual(order((20, 20), (1, 1)), 20)
        self.assertEqual(order((16, 25), (3, 10)), 80)
        self.assertEqual(order((4, 9, 11), (1, 1, 1)), 396)


class TotalTest(unittest.TestCase):
    def test_total_is_wheel_by_wheel(self):
        row = ((3, 5, 1), (0, 0, 0), (3, 4, 1), (1, 5, 1), (1, 5, 1))
        for many in range(len(row) + 1):
            expected = tuple([sum([step[wheel] for step in row[:many]]) % (4, 6, 2)[wheel] for wheel in range(3)])
            with self.subTest(many=many):
                self.assertEqual(answer(total, (4, 6, 2), row[:many]), expected)

    def test_total_of_no_step_is_home(self):
        self.assertEqual(total((7,), ()), (0,))
        self.assertEqual(total((4, 6, 2), ()), (0, 0, 0))

    def test_total_of_forty_steps(self):
        self.assertEqual(total((400,), ((399,),) * 40), (360,))
        self.assertEqual(total((4, 6), ((3, 5), (1, 3)) * 20), (0, 4))
        self.assertEqual(error(total, (400,), ((399,),) * 41), fault("BadRow", index=None))


if __name__ == "__main__":
    unittest.main()
