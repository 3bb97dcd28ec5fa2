"""Point 3: lots and their sums."""

import unittest
from itertools import combinations, product
from math import comb

from helper import all_steps, answer, error, fault, lots_by_sum, sum_of
from nolothome.sums import count_lots, home_lot, never_home, smallest_lot, sums

# Rows with alike steps, with home as a step, and rows that are never home.
ROWS = [
    ((7,), ()), ((7,), ((3,), (3,), (6,), (3,))), ((6,), ((1,), (2,), (4,), (3,))), ((5,), ((0,), (0,), (0,))),
    ((5,), ((2,), (0,), (3,), (0,), (2,), (3,))), ((12,), ((8,), (4,), (6,), (6,), (3,), (9,), (1,))),
    ((100,), ((50,), (25,), (75,), (10,), (10,), (99,), (1,), (65,))), ((400,), ((399,), (1,), (200,), (200,))),
    ((4, 6), ()), ((4, 6), ((3, 5), (3, 5), (1, 1), (2, 2), (0, 0), (2, 3), (2, 3))),
    ((2, 2), ((1, 0), (0, 1), (1, 1), (1, 0), (0, 1))), ((20, 20), ((19, 1), (1, 19), (10, 10), (10, 0), (0, 10))),
    ((2, 2, 3), ()), ((2, 2, 3), ((1, 0, 2), (0, 1, 1), (1, 1, 0), (1, 0, 1), (0, 1, 2), (0, 0, 1))),
    ((2, 2, 100), ((1, 1, 50), (1, 0, 25), (0, 1, 25), (0, 0, 99), (0, 0, 1), (1, 1, 0))),
]
# All rows of up to so many steps of these wheels are tried.
SMALL = [((2,), 6), ((3,), 5), ((4,), 4), ((6,), 3), ((2, 2), 4), ((2, 3), 3), ((2, 2, 2), 3), ((3, 4), 2)]


def small_rows():
    for wheels, most in SMALL:
        for many in range(most + 1):
            for row in product(all_steps(wheels), repeat=many):
                yield wheels, row


class ExamplesTest(unittest.TestCase):
    def test_answers(self):
        row = ((3,), (3,), (6,), (3,))
        self.assertEqual(sums((7,), row), ((1,), (2,), (3,), (5,), (6,)))
        self.assertIs(never_home((7,), row), True)
        self.assertEqual(home_lot((6,), ((1,), (2,), (4,), (3,))), (1, 2))
        self.assertEqual(smallest_lot((7,), row, (5,)), (0, 1, 2))
        self.assertEqual(count_lots((7,), row, (6,)), 4)

    def test_error(self):
        self.assertEqual(error(sums, (7,), ((3,), (7,))), fault("BadRow", index=1))


class AllLotsTest(unittest.TestCase):
    """Every answer for a row against all its lots, worked out one by one."""

    def check(self, wheels, row):
        found = lots_by_sum(wheels, row)
        home = (0,) * len(wheels)
        filled = {goal: [lot for lot in lots if lot] for goal, lots in found.items()}
        reached = [goal for goal in filled if filled[goal]]
        self.assertEqual(answer(sums, wheels, row), tuple(sorted(reached)))
        self.assertIs(answer(never_home, wheels, row), home not in reached)
        for goal in all_steps(wheels):
            lots = filled.get(goal, [])
            least = min(lots, key=lambda lot: (len(lot), lot)) if lots else None
            self.assertEqual(answer(smallest_lot, wheels, row, goal), least)
            self.assertEqual(answer(count_lots, wheels, row, goal), len(found.get(goal, [])))
            if goal == home:
                self.assertEqual(answer(home_lot, wheels, row), least)

    def test_rows(self):
        for wheels, row in ROWS:
            with self.subTest(wheels=wheels, row=row):
                self.check(wheels, row)

    def test_all_small_rows(self):
        for wheels, row in small_rows():
            with self.subTest(wheels=wheels, row=row):
                self.check(wheels, row)


class EdgesTest(unittest.TestCase):
    def test_void_row(self):
        for wheels, home in (((7,), (0,)), ((4, 6), (0, 0)), ((2, 2, 3), (0, 0, 0))):
            with self.subTest(wheels=wheels):
                self.assertEqual(sums(wheels, ()), ())
                self.assertIs(never_home(wheels, ()), True)
                self.assertIsNone(home_lot(wheels, ()))
                self.assertIsNone(smallest_lot(wheels, (), home))
                self.assertEqual(count_lots(wheels, (), home), 1)
        self.assertIsNone(smallest_lot((7,), (), (3,)))
        self.assertEqual(count_lots((7,), (), (3,)), 0)

    def test_home_as_a_step(self):
        self.assertEqual(sums((7,), ((0,),)), ((0,),))
        self.assertIs(never_home((7,), ((3,), (0,))), False)
        self.assertEqual(home_lot((7,), ((3,), (4,), (0,), (0,))), (2,))
        self.assertEqual(smallest_lot((7,), ((0,), (3,), (3,)), (3,)), (1,))
        self.assertEqual(count_lots((7,), ((0,), (0,), (3,)), (0,)), 4)

    def test_the_void_lot_is_no_home_lot(self):
        self.assertIsNone(home_lot((7,), ((3,), (3,))))
        self.assertIsNone(smallest_lot((7,), ((3,), (3,)), (0,)))
        self.assertEqual(count_lots((7,), ((3,), (3,)), (0,)), 1)

    def test_a_smaller_lot_goes_before_a_lesser_one(self):
        self.assertEqual(smallest_lot((9,), ((1,), (2,), (4,), (3,)), (3,)), (3,))
        self.assertEqual(home_lot((6,), ((1,), (2,), (3,), (5,), (1,))), (0, 3))

    def test_of_the_smallest_lots_the_least(self):
        row = ((5,), (1,), (4,), (2,), (3,), (1,), (4,))
        self.assertEqual(smallest_lot((100,), row, (9,)), (0, 2))
        self.assertEqual(smallest_lot((100,), row, (4,)), (2,))
        self.assertEqual(smallest_lot((100,), row, (8,)), (0, 4))
        self.assertEqual(smallest_lot((100,), row, (11,)), (0, 2, 3))

    def test_a_goal_that_no_lot_has(self):
        self.assertIsNone(smallest_lot((7,), ((3,), (3,)), (5,)))
        self.assertEqual(count_lots((7,), ((3,), (3,)), (5,)), 0)
        self.assertIsNone(smallest_lot((4, 6), ((2, 2), (2, 4)), (1, 0)))

    def test_a_goal_that_is_no_step(self):
        for function in (smallest_lot, count_lots):
            for goal in ((7,), (-1,), (3, 3), (), 3, [3], None, (True,), ([3],)):
                with self.subTest(function=function.__name__, goal=goal):
                    self.assertEqual(error(function, (7,), ((3,),), goal), fault("BadStep"))

    def test_sums_ascend_as_python_compares(self):
        self.assertEqual(sums((4, 6), ((3, 0), (0, 5))), ((0, 5), (3, 0), (3, 5)))
        self.assertEqual(sums((100,), ((20,), (3,), (100 - 1,))), ((2,), (3,), (19,), (20,), (22,), (23,), (99,)))


class FortyStepsTest(unittest.TestCase):
    def test_forty_alike_steps(self):
        row = ((1,),) * 40
        self.assertEqual(sums((41,), row), tuple([(many,) for many in range(1, 41)]))
        self.assertIs(never_home((41,), row), True)
        self.assertIsNone(home_lot((41,), row))
        self.assertIs(never_home((40,), row), False)
        self.assertEqual(home_lot((40,), row), tuple(range(40)))
        self.assertEqual(home_lot((7,), row), tuple(range(7)))
        for many in range(41):
            self.assertEqual(count_lots((400,), row, (many,)), comb(40, many))
        self.assertEqual(count_lots((7,), row, (3,)), sum([comb(40, many) for many in range(3, 41, 7)]))
        self.assertEqual(smallest_lot((41,), row, (40,)), tuple(range(40)))
        self.assertIsNone(smallest_lot((400,), row, (41,)))

    def test_the_last_step_counts(self):
        row = ((1,),) * 39 + ((361,),)
        self.assertEqual(home_lot((400,), row), tuple(range(40)))
        self.assertEqual(smallest_lot((400,), row, (361,)), (39,))
        self.assertEqual(smallest_lot((400,), row, (363,)), (0, 1, 39))

    def test_forty_homes(self):
        row = ((0, 0, 0),) * 40
        self.assertEqual(sums((2, 2, 100), row), ((0, 0, 0),))
        self.assertEqual(home_lot((2, 2, 100), row), (0,))
        self.assertEqual(count_lots((2, 2, 100), row, (0, 0, 0)), 2 ** 40)

    def test_small_lots_of_forty_unlike_steps(self):
        for wheels in ((400,), (20, 20), (4, 10, 10)):
            steps = all_steps(wheels)
            row = tuple([steps[(at * at * 37 + at * 11 + 5) % len(steps)] for at in range(40)])
            least = {}
            for many in range(1, 4):
                for lot in combinations(range(40), many):
                    least.setdefault(sum_of(wheels, row, lot), lot)
            self.assertGreater(len(least), 300)
            for goal in sorted(least)[::7]:
                with self.subTest(wheels=wheels, goal=goal):
                    self.assertEqual(smallest_lot(wheels, row, goal), least[goal])

    def test_all_lots_of_forty_steps_are_counted(self):
        row = tuple([((at * 7 + 3) % 4, (at * 5 + 1) % 6) for at in range(40)])
        counts = [count_lots((4, 6), row, goal) for goal in all_steps((4, 6))]
        self.assertEqual(sum(counts), 2 ** 40)
        reached = [goal for goal, many in zip(all_steps((4, 6)), counts) if many]
        self.assertEqual(sums((4, 6), row), tuple(reached))

    def test_more_than_forty_steps(self):
        row = ((1,),) * 41
        for function in (sums, never_home, home_lot):
            self.assertEqual(error(function, (7,), row), fault("BadRow", index=None))
        for function in (smallest_lot, count_lots):
            self.assertEqual(error(function, (7,), row, (1,)), fault("BadRow", index=None))


if __name__ == "__main__":
    unittest.main()
