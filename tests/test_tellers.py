"""Point 4: pairs that tell rows which are never home."""

import unittest
from itertools import product

from helper import (
    ANY_VALUES, WRONG_STEPS, all_lots, all_steps, answer, error, fault, leads_home, sum_of, times_home, turn,
)
from nolothome.tellers import few_teller, has_few, shows_teller, teller

# All rows of up to so many steps of these wheels are tried.
SMALL = [
    ((2,), 5), ((3,), 5), ((4,), 5), ((5,), 4), ((6,), 4), ((7,), 4), ((8,), 3), ((9,), 3), ((2, 2), 4), ((2, 3), 4),
    ((2, 4), 3), ((3, 3), 3), ((3, 4), 2), ((2, 2, 2), 3), ((2, 2, 3), 2), ((3, 2, 2), 2), ((2, 3, 2), 2),
]


def pairs_by_row(wheels, steps):
    """A dict from each row of so many steps that some pair tells to all pairs that tell it."""
    found = {}
    for step in all_steps(wheels):
        order = times_home(wheels, step)
        for integers in product(range(1, order), repeat=steps):
            if sum(integers) < order:
                row = tuple([turn(wheels, step, number) for number in integers])
                found.setdefault(row, []).append((step, integers))
    return found


def all_candidates(wheels, steps):
    """All pairs of a step and so many integers from 1 on up to the step's order, whether they tell a row or not."""
    pairs = []
    for step in all_steps(wheels):
        numbers = range(1, times_home(wheels, step) + 1)
        pairs = pairs + [(step, integers) for integers in product(numbers, repeat=steps)]
    return pairs


def small_rows():
    """All rows of few steps round small wheels, with the pairs that tell each."""
    for wheels, most in SMALL:
        for steps in range(most + 1):
            pairs = pairs_by_row(wheels, steps)
            for row in product(all_steps(wheels), repeat=steps):
                yield wheels, row, pairs.get(row, [])


class ExamplesTest(unittest.TestCase):
    def test_answers(self):
        row = ((3,), (3,), (6,), (3,))
        self.assertEqual(few_teller((7,), row), ((3,), (1, 1, 2, 1)))
        self.assertIs(has_few((7,), row), True)
        self.assertIs(shows_teller((7,), row, ((3,), (1, 1, 2, 1))), True)
        self.assertIsNone(teller((2, 2), ((1, 0), (0, 1))))


class TellerTest(unittest.TestCase):
    def test_all_small_rows(self):
        for wheels, row, pairs in small_rows():
            with self.subTest(wheels=wheels, row=row):
                self.assertIn(answer(teller, wheels, row), pairs or [None])
                self.assertIs(answer(shows_teller, wheels, row, None), not pairs)
                for pair in pairs:
                    self.assertIs(answer(shows_teller, wheels, row, pair), True)

    def test_rows_that_are_told_are_never_home(self):
        for wheels, row, pairs in small_rows():
            if pairs:
                self.assertFalse(leads_home(wheels, row, all_lots(row)[1:]))

    def test_all_other_pairs_show_nothing(self):
        for wheels, most in (((2,), 4), ((3,), 3), ((4,), 2), ((6,), 2), ((2, 2), 2), ((2, 3), 2), ((2, 2, 2), 1)):
            for steps in range(most + 1):
                candidates = all_candidates(wheels, steps)
                pairs = pairs_by_row(wheels, steps)
                for row in product(all_steps(wheels), repeat=steps):
                    for pair in candidates:
                        with self.subTest(wheels=wheels, row=row, pair=pair):
                            self.assertIs(shows_teller(wheels, row, pair), pair in pairs.get(row, []))

    def test_the_void_row_is_told_by_any_step(self):
        for wheels in ((2,), (7,), (400,), (4, 6), (2, 2, 3)):
            for step in all_steps(wheels):
                self.assertIs(shows_teller(wheels, (), (step, ())), True)
                self.assertIs(shows_teller(wheels, (), (step, (1,))), False)
            step, integers = answer(teller, wheels, ())
            self.assertIn(step, all_steps(wheels))
            self.assertEqual(integers, ())
            self.assertIs(shows_teller(wheels, (), None), False)

    def test_rows_with_home(self):
        for wheels, row in (
            ((7,), ((0,),)), ((7,), ((1,), (0,))), ((4, 6), ((0, 0), (1, 1))), ((2, 2, 3), ((0, 0, 1), (0, 0, 0))),
        ):
            with self.subTest(wheels=wheels, row=row):
                self.assertIsNone(answer(teller, wheels, row))
                self.assertIs(shows_teller(wheels, row, None), True)
        self.assertIs(shows_teller((7,), ((0,),), ((0,), (1,))), False)
        self.assertIs(shows_teller((7,), ((0,),), ((1,), (7,))), False)
        self.assertIs(shows_teller((7,), ((1,), (0,)), ((1,), (1, 7))), False)
        self.assertIs(shows_teller((7,), ((1,), (0,)), ((1,), (1, 0))), False)

    def test_integers_sum_to_less_than_the_order_of_the_step(self):
        self.assertIs(shows_teller((4, 6), ((2, 2), (0, 4)), ((2, 2), (1, 2))), True)
        self.assertIs(shows_teller((4, 6), ((2, 2), (2, 2), (0, 4), (0, 4)), ((2, 2), (1, 1, 2, 2))), False)
        self.assertIs(shows_teller((12,), ((3,), (6,)), ((3,), (1, 2))), True)
        self.assertIs(shows_teller((12,), ((3,), (9,)), ((3,), (1, 3))), False)
        self.assertIs(shows_teller((12,), ((3,), (6,)), ((3,), (5, 2))), False)
        self.assertIs(shows_teller((7,), ((3,),), ((1,), (10,))), False)

    def test_forty_steps(self):
        row = ((3,),) * 40
        self.assertEqual(answer(teller, (41,), row), ((3,), (1,) * 40))
        self.assertIsNone(answer(teller, (40,), row))
        self.assertIsNone(answer(teller, (120,), row))
        self.assertIs(shows_teller((123,), row, ((3,), (1,) * 40)), True)
        self.assertIs(shows_teller((123,), row, teller((123,), row)), True)
        self.assertIs(shows_teller((123,), row, ((1,), (3,) * 40)), True)
        self.assertIs(shows_teller((400,), row, ((1,), (3,) * 40)), True)
        self.assertIs(shows_teller((400,), row, ((3,), (1,) * 39)), False)
        self.assertIs(shows_teller((400,), row, ((3,), (1,) * 41)), False)
        row = ((1, 3),) * 39 + ((0, 126),)
        self.assertIs(shows_teller((2, 200), row, ((1, 3), (1,) * 39 + (42,))), True)
        self.assertIs(shows_teller((2, 200), row, teller((2, 200), row)), True)
        self.assertIs(shows_teller((2, 200), row, None), False)
        self.assertIsNone(teller((2, 200), ((1, 3),) * 39 + ((0, 3),)))
        self.assertEqual(error(teller, (7,), ((1,),) * 41), fault("BadRow", index=None))
        self.assertEqual(error(shows_teller, (7,), ((1,),) * 41, None), fault("BadRow", index=None))


class ShowsTellerTest(unittest.TestCase):
    def test_any_value_is_answered(self):
        for wheels, row in (
            ((7,), ()), ((7,), ((1,),)), ((7,), ((1,), (1,))), ((7,), ((0,),)), ((4, 6), ((3, 5),)), ((2, 2, 3), ()),
        ):
            for value in ANY_VALUES + WRONG_STEPS:
                if value is not None:
                    with self.subTest(wheels=wheels, row=row, value=value):
                        self.assertIs(answer(shows_teller, wheels, row, value), False)

    def test_wrong_parts(self):
        row = ((3, 5), (2, 4))
        self.assertIs(shows_teller((4, 6), row, ((3, 5), (1, 2))), True)
        for step in WRONG_STEPS:
            self.assertIs(answer(shows_teller, (4, 6), row, (step, (1, 2))), False)
        for value in ANY_VALUES + [None]:
            self.assertIs(answer(shows_teller, (4, 6), row, ((3, 5), value)), False)
            self.assertIs(answer(shows_teller, (4, 6), row, ((3, 5), (1, value))), False)
        for value in ANY_VALUES[:1] + ANY_VALUES[4:] + [None]:
            self.assertIs(answer(shows_teller, (4, 6), row, ((3, 5), (value, 2))), False)
        pair = ((3, 5), (1, 2))
        for value in (
            list(pair), [pair], (pair,), pair + (1,), pair + (None,), pair[:1], pair[1:], pair[::-1], dict([pair]),
            ([3, 5], (1, 2)), ((3, 5), [1, 2]), ((3, 5), (True, 2)), ((3, 5), (1,)), ((3, 5), (1, 2, 1)),
            ((3, 5), (2, 1)), ((3, 5), (1, 3)), ((3, 5), (1, 2 + 12)), ((3, 5), (1 - 12, 2)), ((3, 5), {1: 2, 2: 2}),
            ((3, 5), 1, 2), ((3, 5, 0), (1, 2)), ((3,), (1, 2)), ((1, 1), (1, 2)), str(pair), ((3, 5), "12"),
        ):
            with self.subTest(value=value):
                self.assertIs(answer(shows_teller, (4, 6), row, value), False)
        self.assertIs(shows_teller((4, 6), ((1, 1), (1, 1)), ((True, True), (1, 1))), False)
        self.assertIs(shows_teller((4, 6), ((1, 1), (1, 1)), ((1, 1), (True, True))), False)
        self.assertIs(shows_teller((4, 6), ((1, 1), (1, 1)), ((1, 1), (1, 1))), True)


class FewTest(unittest.TestCase):
    def test_all_small_rows(self):
        many = 0
        for wheels, row, pairs in small_rows():
            lots = all_lots(row)[1:]
            reached = {sum_of(wheels, row, lot) for lot in lots}
            few = not leads_home(wheels, row, lots) and len(reached) <= 2 * len(row) - 2
            least = [pair for pair in pairs if sum(pair[1]) <= 2 * len(row) - 2]
            with self.subTest(wheels=wheels, row=row):
                self.assertIs(answer(has_few, wheels, row), few)
                self.assertEqual(len(least), 1 if few else 0)
                self.assertEqual(answer(few_teller, wheels, row), least[0] if few else None)
                if few:
                    many = many + 1
                    step, integers = least[0]
                    self.assertEqual(sum(integers), len(reached))
                    multiples = {turn(wheels, step, number) for number in range(1, sum(integers) + 1)}
                    self.assertEqual(multiples, reached)
        self.assertGreater(many, 200)

    def test_few_sums_are_just_twice_the_steps_less_two_or_fewer(self):
        for steps in (2, 3, 7, 20, 40):
            for last in (steps - 2, steps - 1, steps, steps + 1):
                row = ((3,),) * (steps - 1) + ((3 * last,),)
                few = 1 <= last < steps
                pair = ((3,), (1,) * (steps - 1) + (last,))
                with self.subTest(steps=steps, last=last):
                    self.assertIs(answer(has_few, (400,), row), few)
                    self.assertEqual(answer(few_teller, (400,), row), pair if few else None)
                    self.assertIs(shows_teller((400,), row, pair), last > 0)

    def test_forty_steps(self):
        row = ((3,),) * 38 + ((6,), (9,))
        self.assertEqual(answer(few_teller, (400,), row), ((3,), (1,) * 38 + (2, 3)))
        self.assertEqual(answer(few_teller, (44,), row), ((3,), (1,) * 38 + (2, 3)))
        self.assertIsNone(few_teller((43,), row))
        row = ((1, 0, 3),) * 39 + ((0, 0, 12),)
        self.assertEqual(answer(few_teller, (2, 2, 100), row), ((1, 0, 3), (1,) * 39 + (4,)))
        row = ((1, 0, 3),) * 39 + ((0, 1, 12),)
        self.assertIsNone(few_teller((2, 2, 100), row))
        self.assertIs(has_few((2, 2, 100), row), False)

    def test_not_few(self):
        for wheels, row in (
            ((7,), ()), ((2, 2, 3), ()), ((7,), ((3,),)), ((7,), ((3,), (2,))), ((2, 2), ((1, 0), (0, 1))),
            ((7,), ((0,),)), ((7,), ((0,),) * 5), ((7,), ((0,), (3,), (3,))), ((7,), ((3,),) * 7),
            ((400,), ((0,),) * 40),
        ):
            with self.subTest(wheels=wheels, row=row):
                self.assertIs(answer(has_few, wheels, row), False)
                self.assertIsNone(answer(few_teller, wheels, row))

    def test_of_several_pairs_the_one_with_the_small_sum(self):
        row = ((1,), (1,), (1,))
        self.assertIs(shows_teller((400,), row, ((267,), (3, 3, 3))), True)
        self.assertEqual(few_teller((400,), row), ((1,), (1, 1, 1)))
        self.assertIs(shows_teller((20,), ((7,), (7,)), ((9,), (3, 3))), True)
        self.assertEqual(few_teller((20,), ((7,), (7,))), ((7,), (1, 1)))


if __name__ == "__main__":
    unittest.main()
