"""Point 9: walks, whose steps are taken and taken back."""

import unittest
from itertools import product

from helper import WRONG_STEPS, WRONG_WHEELS, all_steps, answer, error, fault, lots_by_sum, sum_of
from nolothome import sums as sums_module
from nolothome.walks import Walk

# For each of these wheels some steps are taken and taken back in all orders of up to so many.
ORDERS = [
    ((2,), ((1,), (0,)), 7), ((7,), ((3,), (4,)), 7), ((5,), ((1,), (2,), (4,)), 5), ((3, 4), ((1, 3), (2, 2)), 6),
    ((4, 6), ((2, 3), (0, 0), (2, 0)), 5), ((2, 2, 3), ((1, 0, 2), (1, 1, 1)), 6),
]
# Wheels with a step for each time that a longer walk takes one.
LONG = [(7,), (40,), (400,), (4, 6), (20, 20), (2, 2, 3), (4, 10, 10)]


def told(walk):
    """What a walk tells of itself."""
    return (walk.row, walk.place, walk.places, walk.sums(), walk.home_lot())


def worked_out(wheels, row):
    """What a walk of these steps should tell, from all lots of the row, one by one."""
    places = tuple([sum_of(wheels, row, range(many)) for many in range(len(row) + 1)])
    found = {reached: [lot for lot in lots if lot] for reached, lots in lots_by_sum(wheels, row).items()}
    home = found[(0,) * len(wheels)]
    least = min(home, key=lambda lot: (len(lot), lot)) if home else None
    return (row, places[-1], places, tuple(sorted([reached for reached in found if found[reached]])), least)


def after(wheels, moves):
    """A walk behind some moves, a step each, or None to take one back; and its row, worked out."""
    walk, row = Walk(wheels), ()
    for move in moves:
        if move is not None:
            walk.take(move)
            row = row + (move,)
        elif row:
            walk.undo()
            row = row[:-1]
    return walk, row


def long_moves(wheels, many):
    """Moves in no plain order, with more steps taken than taken back."""
    steps = all_steps(wheels)
    moves = [steps[(at * at * 37 + at * 11 + 5) % len(steps)] for at in range(many)]
    return [None if (at * at + at // 3) % 7 in (2, 5) else move for at, move in enumerate(moves)]


class ExamplesTest(unittest.TestCase):
    def test_answers(self):
        walk = Walk((3, 4))
        self.assertIsNone(walk.take((1, 3)))
        self.assertIsNone(walk.take((2, 2)))
        self.assertEqual(walk.row, ((1, 3), (2, 2)))
        self.assertEqual(walk.place, (0, 1))
        self.assertEqual(walk.places, ((0, 0), (1, 3), (0, 1)))
        self.assertEqual(walk.sums(), ((0, 1), (1, 3), (2, 2)))
        self.assertIsNone(walk.home_lot())
        self.assertIsNone(walk.undo())
        self.assertEqual(walk.place, (1, 3))

    def test_error(self):
        self.assertEqual(error(Walk, (1,)), fault("BadWheels", index=0))


class ClassTest(unittest.TestCase):
    def test_what_is_defined_in_the_class_itself(self):
        for name in ("__init__", "take", "undo", "sums", "home_lot"):
            self.assertTrue(callable(vars(Walk)[name]))
        for name in ("row", "place", "places"):
            self.assertIsInstance(vars(Walk)[name], property)

    def test_properties_cannot_be_set(self):
        walk = Walk((7,))
        for name in ("row", "place", "places"):
            with self.assertRaises(AttributeError):
                setattr(walk, name, ())
        self.assertEqual(told(walk), ((), (0,), ((0,),), (), None))


class NewWalkTest(unittest.TestCase):
    def test_at_home_at_first(self):
        for wheels, home in (((2,), (0,)), ((400,), (0,)), ((4, 6), (0, 0)), ((2, 2, 3), (0, 0, 0))):
            walk = Walk(wheels)
            with self.subTest(wheels=wheels):
                self.assertEqual(told(walk), ((), home, (home,), (), None))
                self.assertEqual(error(walk.undo), fault("NoStep"))
                self.assertEqual(told(walk), ((), home, (home,), (), None))

    def test_wrong_wheels(self):
        for value, index in WRONG_WHEELS:
            with self.subTest(value=value):
                self.assertEqual(error(Walk, value), fault("BadWheels", index=index))


class MovesTest(unittest.TestCase):
    def test_all_orders_of_few_moves(self):
        for wheels, steps, most in ORDERS:
            known = {}
            for many in range(most + 1):
                for moves in product(steps + (None,), repeat=many):
                    walk, row = after(wheels, moves)
                    known.setdefault(row, worked_out(wheels, row))
                    with self.subTest(wheels=wheels, moves=moves):
                        self.assertEqual(told(walk), known[row])

    def test_all_rows_of_two_steps(self):
        for wheels in ((2,), (5,), (2, 3), (3, 4), (2, 2, 2)):
            for row in product(all_steps(wheels), repeat=2):
                walk, _ = after(wheels, row)
                self.assertEqual(told(walk), worked_out(wheels, row))

    def test_long_walks(self):
        for wheels in LONG:
            walk, row = Walk(wheels), ()
            for at, move in enumerate(long_moves(wheels, 80)):
                if move is None and row:
                    self.assertIsNone(walk.undo())
                    row = row[:-1]
                elif move is not None and len(row) < 40:
                    self.assertIsNone(walk.take(move))
                    row = row + (move,)
                places = tuple([sum_of(wheels, row, range(many)) for many in range(len(row) + 1)])
                self.assertEqual((walk.row, walk.place, walk.places), (row, places[-1], places))
                if at % 20 == 19:
                    self.assertEqual(answer(walk.sums), sums_module.sums(wheels, row))
                    self.assertEqual(answer(walk.home_lot), sums_module.home_lot(wheels, row))
            self.assertGreater(len(row), 20)

    def test_reading_changes_nothing(self):
        walk, row = after((4, 6), ((2, 3), (0, 5), (2, 3)))
        expected = worked_out((4, 6), row)
        for _ in range(3):
            self.assertEqual(told(walk), expected)
        self.assertEqual(walk.home_lot(), (0, 2))
        walk.undo()
        self.assertEqual(told(walk), worked_out((4, 6), row[:-1]))

    def test_all_steps_taken_back(self):
        for wheels, steps, _ in ORDERS:
            walk, row = after(wheels, steps * 3)
            while row:
                self.assertEqual(told(walk), worked_out(wheels, row))
                walk.undo()
                row = row[:-1]
            self.assertEqual(told(walk), worked_out(wheels, ()))
            self.assertEqual(error(walk.undo), fault("NoStep"))
            self.assertEqual(error(walk.undo), fault("NoStep"))
            walk.take(steps[0])
            self.assertEqual(told(walk), worked_out(wheels, steps[:1]))


class WrongStepsTest(unittest.TestCase):
    def test_they_leave_the_walk_as_it_was(self):
        for many in (0, 1, 3, 39, 40):
            walk = Walk((4, 6))
            for at in range(many):
                walk.take((at % 4, 5))
            before = told(walk)
            for value in WRONG_STEPS:
                with self.subTest(many=many, value=value):
                    # Forty steps are as many as are let, but a wrong value is told first.
                    self.assertEqual(error(walk.take, value), fault("BadStep"))
                    self.assertEqual((walk.row, walk.place, walk.places), before[:3])
            self.assertEqual(told(walk), before)

    def test_steps_are_those_of_the_wheels(self):
        for wheels, value in (((4,), (4,)), ((6, 4), (3, 5)), ((7,), (3, 3)), ((2, 2, 3), (1, 1)), ((2,), (True,))):
            walk = Walk(wheels)
            self.assertEqual(error(walk.take, value), fault("BadStep"))
            self.assertEqual(walk.row, ())


class FortyStepsTest(unittest.TestCase):
    def test_the_fortieth_and_the_forty_first_step(self):
        for wheels in LONG:
            steps = all_steps(wheels)
            row = tuple([steps[(at * 5 + 1) % len(steps)] for at in range(40)])
            walk, _ = after(wheels, row[:39])
            self.assertIsNone(walk.take(row[39]))
            before = told(walk)
            self.assertEqual(before[0], row)
            self.assertEqual(len(before[2]), 41)
            self.assertEqual(before[3:], (sums_module.sums(wheels, row), sums_module.home_lot(wheels, row)))
            for step in (steps[0], steps[-1], row[0]):
                self.assertEqual(error(walk.take, step), fault("TooMany", most=40))
                self.assertEqual(told(walk), before)
            for value in (None, True, 0, [], (), {}, "0", (400,), (-1, 0), (0, 0, 0, 0), (None,)):
                self.assertEqual(error(walk.take, value), fault("BadStep"))
            walk.undo()
            self.assertEqual(walk.row, row[:39])
            walk.take(steps[-1])
            self.assertEqual(walk.row, row[:39] + (steps[-1],))
            self.assertEqual(error(walk.take, steps[0]), fault("TooMany", most=40))

    def test_more_than_forty_moves_are_let(self):
        walk = Walk((7,))
        for _ in range(100):
            walk.take((3,))
            walk.take((4,))
            walk.undo()
            walk.undo()
        self.assertEqual(told(walk), ((), (0,), ((0,),), (), None))


class TwoWalksTest(unittest.TestCase):
    def test_they_do_not_meddle(self):
        one, other = Walk((4, 6)), Walk((4, 6))
        third = Walk((7,))
        one.take((3, 5))
        other.take((1, 1))
        one.take((1, 1))
        third.take((5,))
        self.assertEqual(told(one), worked_out((4, 6), ((3, 5), (1, 1))))
        self.assertEqual(told(other), worked_out((4, 6), ((1, 1),)))
        self.assertEqual(told(third), worked_out((7,), ((5,),)))
        other.undo()
        self.assertEqual(error(other.undo), fault("NoStep"))
        self.assertEqual(error(third.take, (3, 5)), fault("BadStep"))
        self.assertEqual(told(one), worked_out((4, 6), ((3, 5), (1, 1))))
        self.assertEqual(told(other), worked_out((4, 6), ()))
        self.assertEqual(told(third), worked_out((7,), ((5,),)))

    def test_a_full_one_leaves_room_in_another(self):
        one, other = Walk((2,)), Walk((2,))
        for _ in range(40):
            one.take((1,))
        self.assertEqual(error(one.take, (1,)), fault("TooMany", most=40))
        other.take((1,))
        self.assertEqual(other.row, ((1,),))
        self.assertEqual(told(Walk((2,))), worked_out((2,), ()))


class HandedOutTest(unittest.TestCase):
    def test_tuples_stay_as_they_were(self):
        walk = Walk((4, 6))
        handed = []
        for move in ((3, 5), (1, 1), None, (2, 3), (2, 3), None, None, None, (0, 0)):
            if move is None:
                walk.undo()
            else:
                walk.take(move)
            now = told(walk)
            handed.append((now, repr(now)))
            for before, shown in handed:
                self.assertEqual(repr(before), shown)
        self.assertEqual(handed[1][0][0], ((3, 5), (1, 1)))
        self.assertEqual(handed[1][0][2], ((0, 0), (3, 5), (0, 0)))
        self.assertEqual(told(walk), worked_out((4, 6), ((0, 0),)))

    def test_kinds_of_values(self):
        walk, row = after((4, 6), ((3, 5), (1, 1)))
        for value in (walk.row, walk.place, walk.places, walk.sums(), walk.home_lot()):
            self.assertIs(type(value), tuple)
        for steps in (walk.row, walk.places, walk.sums(), (walk.place,)):
            for step in steps:
                self.assertIs(type(step), tuple)
                self.assertEqual([type(turn) for turn in step], [int, int])


if __name__ == "__main__":
    unittest.main()
