"""Point 5: rows round one wheel that are never home and have more than half as many steps as places."""

import unittest
from itertools import permutations, product

from helper import (
    WRONG_COUNTS, WRONG_PLACES, answer, are_ascending, as_row, ascending_turns, error, euler_partitions, fault,
    reached_numbers, told_by, units_of,
)
from nolothome.longs import check_rows, count_long, long_rows, long_teller, most_steps, partitions
from nolothome.sums import never_home

COUNTS = euler_partitions(400)
# For each number of places from 2 on: rows of all numbers of steps that are let, and up to so many, are tried.
MOST = {2: 6, 3: 6, 4: 7, 5: 8, 6: 8, 7: 9, 8: 9, 9: 10}


def known_count(places, steps):
    """How many ascending rows of so many steps are never home, by units and partitions."""
    return len(units_of(places)) * sum(COUNTS[:max(0, places - steps)])


def long_numbers():
    """All numbers of places and steps that are let, below places."""
    return [(places, steps) for places in range(2, 401) for steps in range(places // 2 + 1, places)]


def all_pairs(places, steps):
    """A dict from each row, ascending, that some pair tells to all pairs that tell it."""
    found = {}
    for unit in range(places):
        order = next(number for number in range(1, places + 1) if unit * number % places == 0)
        for integers in ascending_turns(order, steps):
            if 0 not in integers and sum(integers) < order:
                told = sorted([(unit * integer % places, integer) for integer in integers])
                row = as_row([at for at, _ in told])
                found.setdefault(row, []).append(((unit,), tuple([integer for _, integer in told])))
    return found


class ExamplesTest(unittest.TestCase):
    def test_answers(self):
        self.assertEqual(long_teller(7, ((3,), (3,), (6,), (3,))), ((3,), (1, 1, 2, 1)))
        self.assertEqual(count_long(7, 5), 12)
        self.assertEqual(long_rows(4, 3), (((1,), (1,), (1,)), ((3,), (3,), (3,))))
        self.assertEqual(most_steps(9), 8)
        self.assertEqual(partitions(10), 42)

    def test_error(self):
        self.assertEqual(error(long_teller, 7, ((1,), (1,), (1,))), fault("BadNumber"))


class PartitionsTest(unittest.TestCase):
    def test_known_numbers(self):
        for number, count in (
            (0, 1), (1, 1), (2, 2), (3, 3), (4, 5), (5, 7), (6, 11), (10, 42), (100, 190569292),
            (200, 3972999029388), (400, 6727090051741041926),
        ):
            self.assertEqual(answer(partitions, number), count)

    def test_all_numbers(self):
        for number in range(401):
            self.assertEqual(partitions(number), COUNTS[number])

    def test_wrong_numbers(self):
        for value in WRONG_COUNTS:
            with self.subTest(value=value):
                self.assertEqual(error(partitions, value), fault("BadNumber"))


class AllRowsTest(unittest.TestCase):
    """Every answer against all rows, worked out one by one."""

    def test_all_ascending_rows(self):
        for places, most in MOST.items():
            for steps in range(places // 2 + 1, most + 1):
                pairs = all_pairs(places, steps)
                found = []
                for turns in ascending_turns(places, steps):
                    row = as_row(turns)
                    if 0 not in reached_numbers(places, turns):
                        found.append(row)
                        self.check_told(places, row, pairs[row])
                    else:
                        self.assertIsNone(long_teller(places, row))
                        self.assertNotIn(row, pairs)
                with self.subTest(places=places, steps=steps):
                    self.assertEqual(answer(count_long, places, steps), len(found))
                    self.assertEqual(answer(long_rows, places, steps), tuple(found))

    def check_told(self, places, row, pairs):
        with self.subTest(places=places, row=row):
            self.assertEqual(len(pairs), 1)
            self.assertEqual(answer(long_teller, places, row), pairs[0])
            self.assertIn(pairs[0][0][0], units_of(places))

    def test_rows_in_any_order(self):
        for places, steps in ((3, 2), (4, 3), (5, 3), (5, 4), (6, 4), (7, 4)):
            pairs = all_pairs(places, steps)
            for row in product(as_row(range(places)), repeat=steps):
                with self.subTest(places=places, row=row):
                    self.assertEqual(answer(long_teller, places, row), told_by(pairs, row))

    def test_integers_stand_in_the_order_of_the_row(self):
        for turns in permutations((5, 5, 10, 5, 15, 5, 5)):
            integers = tuple([turn // 5 for turn in turns])
            self.assertEqual(long_teller(13, as_row([turn % 13 for turn in turns])), ((5,), integers))

    def test_most_steps(self):
        for places in range(2, 10):
            least = places // 2 + 1
            never = [steps for steps in range(least, places + 3) if count_long(places, steps) > 0]
            self.assertEqual(answer(most_steps, places), max(never + [1]))
        for places in range(2, 401):
            self.assertEqual(most_steps(places), places - 1)
            if places > 2:
                self.assertEqual(count_long(places, most_steps(places)), len(units_of(places)))
            self.assertEqual(count_long(places, most_steps(places) + 1), 0)


class EdgesTest(unittest.TestCase):
    def test_places(self):
        for value in WRONG_PLACES:
            with self.subTest(value=value):
                self.assertEqual(error(most_steps, value), fault("BadNumber"))
                self.assertEqual(error(count_long, value, 300), fault("BadNumber"))
                self.assertEqual(error(long_rows, value, 300), fault("BadNumber"))
                self.assertEqual(error(long_teller, value, ((0,),) * 40), fault("BadNumber"))
        self.assertEqual(most_steps(2), 1)
        self.assertEqual(most_steps(400), 399)

    def test_steps(self):
        for function in (count_long, long_rows):
            for value in WRONG_COUNTS + [0]:
                for places in (2, 3, 7, 400):
                    with self.subTest(function=function.__name__, places=places, value=value):
                        self.assertEqual(error(function, places, value), fault("BadNumber"))

    def test_more_than_half_as_many_steps_as_places(self):
        for places in range(2, 401):
            for steps in (1, places // 2 - 1, places // 2):
                self.assertEqual(error(count_long, places, steps), fault("BadNumber"))
                self.assertEqual(error(long_rows, places, steps), fault("BadNumber"))
            least = places // 2 + 1
            self.assertEqual(count_long(places, least), known_count(places, least))

    def test_long_teller_takes_rows_of_more_than_half_as_many_steps_as_places(self):
        for places in range(2, 401):
            for steps in range(41):
                row = ((1,),) * steps
                if 2 * steps <= places:
                    self.assertEqual(error(long_teller, places, row), fault("BadNumber"))
                else:
                    told = ((1,), (1,) * steps) if steps < places else None
                    self.assertEqual(long_teller(places, row), told)

    def test_wrong_rows_before_short_ones(self):
        for row, index in (
            (None, None), ([], None), ([(1,)] * 5, None), (((1,),) * 41, None), (((7,),), 0), (((1,), (True,)), 1),
            (((1,), (2,), 3), 2), (((1, 1),) * 5, 0), (((1, 1),), 0), ((None,), 0),
        ):
            with self.subTest(row=row):
                self.assertEqual(error(long_teller, 7, row), fault("BadRow", index=index))
        self.assertEqual(error(long_teller, 400, ((7,), (399,), (400,))), fault("BadRow", index=2))
        for row in ((), ((0,),), ((1,), (1,), (1,))):
            self.assertEqual(error(long_teller, 7, row), fault("BadNumber"))
        self.assertEqual(error(long_teller, 80, ((1,),) * 40), fault("BadNumber"))
        self.assertEqual(error(long_teller, 80, ((1,),) * 41), fault("BadRow", index=None))
        self.assertEqual(error(long_teller, 400, ((1,),) * 399), fault("BadRow", index=None))

    def test_forty_steps(self):
        self.assertEqual(answer(long_teller, 79, ((5,),) * 40), ((5,), (1,) * 40))
        row = ((5,),) * 39 + ((5 * 39 % 79,),)
        self.assertEqual(answer(long_teller, 79, row), ((5,), (1,) * 39 + (39,)))
        self.assertIsNone(answer(long_teller, 79, ((5,),) * 39 + ((5 * 40 % 79,),)))
        self.assertIsNone(answer(long_teller, 79, ((5,),) * 39 + ((0,),)))
        self.assertIsNone(answer(long_teller, 40, ((3,),) * 40))
        self.assertEqual(answer(long_teller, 41, ((3,),) * 40), ((3,), (1,) * 40))
        self.assertIsNone(answer(long_teller, 78, ((2,),) * 40))

    def test_smallest_wheels(self):
        for row in (((1,), (1,)), ((0,), (1,)), ((0,), (0,)), ((1,), (1,), (1,))):
            self.assertIsNone(long_teller(2, row))
        self.assertEqual(error(long_teller, 2, ((1,),)), fault("BadNumber"))
        for steps in range(2, 401):
            self.assertEqual(count_long(2, steps), 0)
            self.assertEqual(long_rows(2, steps), ())
        self.assertEqual(long_rows(3, 2), (((1,), (1,)), ((2,), (2,))))

    def test_as_many_steps_as_places_or_more(self):
        for places in (2, 3, 4, 7, 10, 99, 400):
            for steps in (places, places + 1, 399, 400):
                if places <= steps <= 400:
                    self.assertEqual(answer(count_long, places, steps), 0)
                    self.assertEqual(answer(long_rows, places, steps), ())

    def test_biggest_wheel(self):
        self.assertEqual(count_long(400, 399), 160)
        self.assertEqual(count_long(400, 201), 160 * sum(COUNTS[:199]))
        rows = long_rows(400, 399)
        self.assertEqual(rows, tuple([((unit,),) * 399 for unit in units_of(400)]))


class ManyRowsTest(unittest.TestCase):
    def test_all_counts(self):
        for places, steps in long_numbers()[::97]:
            with self.subTest(places=places, steps=steps):
                self.assertEqual(answer(count_long, places, steps), known_count(places, steps))

    def test_more_than_5000_rows(self):
        # There are no places and steps with just 5000 rows: the most below are 4980, the least above 5004.
        known = [(known_count(places, steps), places, steps) for places, steps in long_numbers()]
        above = sorted([numbers for numbers in known if numbers[0] > 5000])
        self.assertEqual(above[0][0], 5004)
        for count, places, steps in above[:60] + above[60::500] + [(known_count(400, 201), 400, 201)]:
            with self.subTest(places=places, steps=steps, count=count):
                self.assertEqual(error(long_rows, places, steps), fault("TooMany", most=5000))

    def test_5000_rows_and_fewer(self):
        known = [(known_count(places, steps), places, steps) for places, steps in long_numbers()]
        let = sorted([numbers for numbers in known if numbers[0] <= 5000])
        self.assertEqual(let[-1][0], 4980)
        for count, places, steps in let[-3:] + let[::80]:
            with self.subTest(places=places, steps=steps, count=count):
                self.check_listed(places, steps, count)

    def test_just_5000_rows_are_let(self):
        for many in (0, 1, 4999, 5000):
            check_rows(many)
        for many in (5001, 5002, 10 ** 20):
            self.assertEqual(error(check_rows, many), fault("TooMany", most=5000))

    def check_listed(self, places, steps, count):
        rows = long_rows(places, steps)
        self.assertEqual(len(rows), count)
        self.assertTrue(are_ascending(rows, steps))
        for row in rows[::50]:
            self.assertNotIn(0, reached_numbers(places, [turn for turn, in row]))
            if steps <= 40:
                self.assertTrue(never_home((places,), row))

    def test_too_many_behind_the_other_errors(self):
        for places, steps in ((None, 300), (401, 300), (400, None), (400, 200), (400, 401), (400, True), (1, 0)):
            self.assertEqual(error(long_rows, places, steps), fault("BadNumber"))
        self.assertEqual(error(long_rows, 400, 201), fault("TooMany", most=5000))


if __name__ == "__main__":
    unittest.main()
