"""Point 8: lots of just as many steps as places, and the sizes of all lots that lead home."""

import unittest
from itertools import product
from math import gcd

from helper import WRONG_PLACES, all_lots, answer, as_row, ascending_turns, error, fault, sum_of
from nolothome.sames import has_same, same_lot, sizes_home

# For each number of places, all rows of up to so many steps are tried.
SMALL = {2: 8, 3: 6, 4: 5, 5: 5, 6: 4}
# For each number of places, all ascending rows of from so many to so many steps are tried, in some orders.
ASCENDING = {2: (2, 6), 3: (3, 6), 4: (4, 8), 5: (5, 8), 6: (6, 8)}
WRONG_ROWS = [
    (None, None), (True, None), (False, None), (0, None), (3, None), ("", None), ("3", None), ([], None),
    ([(3,)], None), ({}, None), ({(3,): 1}, None), (((3,),) * 41, None), ((None,) * 41, None), ((3,), 0),
    ((None,), 0), (((3,), (7,)), 1), (((-1,), (7,)), 0), (((3,), (3,), (True,)), 2), (((3, 3),), 0), (((),), 0),
    (((3,), [3]), 1), (((3,), {3: 3}), 1), (((3,), "3"), 1), (((3,), ("3",), None), 1), (((3,),) * 39 + (3,), 39),
]


def home_lots(places, row):
    """All lots that are not void and lead home, one by one."""
    turns = [turn for turn, in row]
    return [lot for lot in all_lots(row)[1:] if sum([turns[place] for place in lot]) % places == 0]


def orders(turns):
    """A row in some orders: as it is, the other way round, turned, and every other one first."""
    return [turns, turns[::-1], turns[2:] + turns[:2], turns[::2] + turns[1::2], turns[1::2] + turns[::2]]


def shuffled(places, steps, seed):
    """A row of steps that stand in no plain order."""
    return as_row([(at * at * (seed + 3) + at * 7 * seed + (at * at * at) // 5) % places for at in range(steps)])


def sizes_by_step(places, row):
    """The pairs of a size and a sum of all lots, the void one too, step by step."""
    pairs = {(0, 0)}
    for turn, in row:
        pairs = pairs | {(many + 1, (reached + turn) % places) for many, reached in pairs}
    return pairs


def least_same(places, row):
    """The least lot of as many steps as places that leads home, place by place, or None."""
    behind = [sizes_by_step(places, row[at:]) for at in range(1, len(row) + 1)]
    lot, goal = (), 0
    while len(lot) < places:
        first = lot[-1] + 1 if lot else 0
        wanted = [(places - len(lot) - 1, (goal - row[place][0]) % places) for place in range(first, len(row))]
        let = [first + at for at, pair in enumerate(wanted) if pair in behind[first + at]]
        if not let:
            return None
        lot = lot + (let[0],)
        goal = (goal - row[let[0]][0]) % places
    return lot


class ExamplesTest(unittest.TestCase):
    def test_answers(self):
        self.assertEqual(same_lot(3, ((0,), (0,), (1,), (1,), (1,))), (2, 3, 4))
        self.assertIs(has_same(3, ((0,), (0,), (1,), (1,))), False)
        self.assertEqual(sizes_home(4, ((1,), (1,), (2,), (0,))), (1, 3, 4))


class AllLotsTest(unittest.TestCase):
    """Every answer for a row against all its lots, worked out one by one."""

    def check(self, places, row):
        lots = home_lots(places, row)
        same = [lot for lot in lots if len(lot) == places]
        with self.subTest(places=places, row=row):
            self.assertEqual(answer(same_lot, places, row), min(same) if same else None)
            self.assertIs(answer(has_same, places, row), bool(same))
            self.assertEqual(answer(sizes_home, places, row), tuple(sorted({len(lot) for lot in lots})))
        return bool(same)

    def test_all_small_rows(self):
        for places, most in SMALL.items():
            for steps in range(most + 1):
                for turns in product(range(places), repeat=steps):
                    self.check(places, as_row(turns))

    def test_ascending_rows_in_some_orders(self):
        for places, (least, most) in ASCENDING.items():
            for steps in range(least, most + 1):
                for at, turns in enumerate(ascending_turns(places, steps)):
                    some = orders(turns) if steps <= 6 else orders(turns)[at % 5:][:1]
                    for order in some:
                        found = self.check(places, as_row(order))
                        self.assertTrue(found or steps < 2 * places - 1)

    def test_rows_of_more_steps(self):
        for places in (2, 3, 4, 5, 6, 7, 9, 10):
            for seed in range(3):
                self.check(places, shuffled(places, 10, seed))
        for places in (11, 12, 20, 40, 100, 399, 400):
            self.check(places, shuffled(places, 9, 2))


class EdgesTest(unittest.TestCase):
    def test_the_void_row(self):
        for places in (2, 3, 7, 40, 41, 400):
            self.assertIsNone(answer(same_lot, places, ()))
            self.assertIs(answer(has_same, places, ()), False)
            self.assertEqual(answer(sizes_home, places, ()), ())

    def test_fewer_steps_than_places(self):
        for places in (2, 3, 7, 40, 41, 400):
            for steps in range(1, min(places, 41)):
                row = ((0,),) * steps
                self.assertIsNone(answer(same_lot, places, row))
                self.assertIs(answer(has_same, places, row), False)
                self.assertEqual(answer(sizes_home, places, row), tuple(range(1, steps + 1)))

    def test_as_many_steps_as_places(self):
        for places in range(2, 41):
            for turn in (0, 1, places - 1):
                row = ((turn,),) * places
                self.assertEqual(answer(same_lot, places, row), tuple(range(places)))
                self.assertIs(answer(has_same, places, row), True)
                unlike = ((turn,),) * (places - 1) + (((turn + 1) % places,),)
                self.assertIsNone(answer(same_lot, places, unlike))
                self.assertIs(answer(has_same, places, unlike), False)

    def test_twice_the_places_less_two_may_be_without_one(self):
        for places in range(2, 21):
            many = places - 1
            for row in (
                ((0,),) * many + ((1,),) * many, ((1,),) * many + ((0,),) * many, ((0,), (1,)) * many,
                ((1,),) + ((0,),) * many + ((1,),) * (many - 1),
            ):
                with self.subTest(places=places, row=row):
                    self.assertIsNone(answer(same_lot, places, row))
                    self.assertIs(answer(has_same, places, row), False)
                    self.assertEqual(answer(sizes_home, places, row), tuple(range(1, places)))

    def test_twice_the_places_less_one_always_have_one(self):
        for places in range(2, 21):
            many = places - 1
            homes, ones = ((0,),) * many, ((1,),) * many
            alike = tuple(range(2 * many + 1))
            self.assertEqual(answer(same_lot, places, homes + ones + ((0,),)), alike[:many] + alike[-1:])
            self.assertEqual(answer(same_lot, places, homes + ones + ((1,),)), alike[many:])
            rows = [homes + ones + ((turn,),) for turn in range(places)]
            rows = rows + [shuffled(places, 2 * many + 1, seed) for seed in range(5)]
            for row in rows:
                with self.subTest(places=places, row=row):
                    lot = answer(same_lot, places, row)
                    self.assertEqual(len(lot), places)
                    self.assertEqual(lot, least_same(places, row))
                    self.assertIs(answer(has_same, places, row), True)
                    self.assertIn(places, answer(sizes_home, places, row))

    def test_the_least_lot_as_tuples_are_compared(self):
        self.assertEqual(same_lot(2, ((1,), (0,), (0,), (1,))), (0, 3))
        self.assertEqual(same_lot(3, ((0,), (1,), (1,), (0,), (0,), (1,))), (0, 3, 4))
        self.assertEqual(same_lot(3, ((1,), (0,), (0,), (2,), (0,))), (0, 1, 3))
        self.assertEqual(same_lot(2, ((1,), (0,), (0,), (0,))), (1, 2))

    def test_the_void_lot_is_not_told(self):
        self.assertEqual(sizes_home(7, ((1,), (2,), (3,))), ())
        self.assertEqual(sizes_home(7, ((1,), (2,), (4,))), (3,))
        self.assertEqual(sizes_home(7, ((0,),)), (1,))


class FortyStepsTest(unittest.TestCase):
    def test_same_lots(self):
        for places in (2, 3, 5, 8, 12, 16, 20):
            for seed in range(3):
                row = shuffled(places, 40, seed)
                with self.subTest(places=places, seed=seed):
                    self.assertEqual(answer(same_lot, places, row), least_same(places, row))
        for places in (19, 20, 21, 25, 30, 33, 38, 39, 40, 41, 100, 400):
            for seed in (1, 2):
                row = shuffled(places, 40, seed)
                there = (places, 0) in sizes_by_step(places, row)
                with self.subTest(places=places, seed=seed):
                    lot = answer(same_lot, places, row)
                    self.assertIs(answer(has_same, places, row), there)
                    self.assertIs(lot is not None, there)
                    if there:
                        self.assertEqual(len(lot), places)
                        self.assertEqual(list(lot), sorted(set(lot)))
                        self.assertEqual(sum_of((places,), row, lot), (0,))

    def test_sizes(self):
        for places in (2, 3, 7, 20, 40, 41, 100, 399, 400):
            for seed in (1, 2, 3):
                row = shuffled(places, 40, seed)
                sizes = [many for many, reached in sizes_by_step(places, row) if reached == 0 and many > 0]
                with self.subTest(places=places, seed=seed):
                    self.assertEqual(answer(sizes_home, places, row), tuple(sorted(sizes)))

    def test_alike_steps(self):
        for places in (2, 7, 12, 39, 40, 41, 360, 400):
            for turn in (0, 1, 6, 10, places - 1):
                row = ((turn % places,),) * 40
                least = places // gcd(turn % places, places)
                with self.subTest(places=places, turn=turn):
                    self.assertEqual(answer(sizes_home, places, row), tuple(range(least, 41, least)))
                    self.assertEqual(answer(same_lot, places, row), tuple(range(places)) if places <= 40 else None)

    def test_the_last_step_counts(self):
        row = ((1,),) * 39 + ((361,),)
        self.assertEqual(sizes_home(400, row), (40,))
        self.assertIsNone(same_lot(400, row))
        self.assertEqual(same_lot(40, ((3,),) * 40), tuple(range(40)))
        self.assertIsNone(same_lot(40, ((3,),) * 39 + ((4,),)))
        self.assertEqual(same_lot(2, ((1,),) + ((0,),) + ((1,),)), (0, 2))


class WrongTest(unittest.TestCase):
    def test_places(self):
        for function in (same_lot, has_same, sizes_home):
            for value in WRONG_PLACES + ["5", 1, 401]:
                for row in ((), ((0,),) * 40, None, ((9,), True)):
                    with self.subTest(function=function.__name__, places=value, row=row):
                        self.assertEqual(error(function, value, row), fault("BadNumber"))

    def test_rows(self):
        for function in (same_lot, has_same, sizes_home):
            for row, index in WRONG_ROWS:
                with self.subTest(function=function.__name__, row=row):
                    self.assertEqual(error(function, 7, row), fault("BadRow", index=index))

    def test_steps_are_those_of_the_places_passed(self):
        for function in (same_lot, has_same, sizes_home):
            for places in (2, 3, 39, 40, 41, 400):
                row = ((places - 1,), (0,), (places,), (places + 1,))
                self.assertEqual(error(function, places, row), fault("BadRow", index=2))
                answer(function, places, row[:2])


if __name__ == "__main__":
    unittest.main()
