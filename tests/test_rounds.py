"""Points 6 and 7: whole rounds, and rows parted into them."""

import unittest
from itertools import permutations, product

from helper import (
    ANY_VALUES, WRONG_COUNTS, WRONG_PLACES, all_lots, all_steps, answer, are_ascending, as_row, ascending_turns,
    error, euler_partitions, fault, is_whole_round, reached_numbers, sum_of, told_by, units_of,
)
from nolothome.rounds import count_rounds, is_round, parted, round_rows, round_teller, shows_parted

COUNTS = euler_partitions(400)
# For each number of places from 2 on: rows of all numbers of steps that are let, and up to so many, are tried.
MOST = {2: 6, 3: 6, 4: 7, 5: 8, 6: 9, 7: 9, 8: 10, 9: 10}
# All rows of up to so many steps of these wheels are tried.
SMALL = [
    ((2,), 6), ((3,), 6), ((4,), 5), ((5,), 4), ((6,), 4), ((7,), 4), ((8,), 3), ((2, 2), 5), ((2, 3), 4), ((2, 4), 3),
    ((3, 3), 3), ((3, 4), 2), ((2, 2, 2), 3), ((2, 2, 3), 2), ((2, 3, 2), 2), ((3, 2, 2), 2),
]
# Rows that lead home, with homes, alike steps, and several ways to part them.
HOME_ROWS = [
    ((3,), ((0,), (1,), (2,))), ((7,), ()), ((7,), ((0,),)), ((5,), ((2,), (2,), (4,), (2,))),
    ((5,), ((1,), (4,), (0,), (4,), (1,), (0,))), ((6,), ((3,), (3,), (2,), (4,), (1,), (5,))),
    ((6,), ((1,), (2,), (3,), (3,), (2,), (1,))), ((4,), ((1,), (1,), (2,), (2,), (3,), (3,))),
    ((2, 2), ((1, 0), (0, 1), (1, 1), (1, 0), (0, 1), (1, 1))), ((4, 6), ((3, 5), (1, 1), (2, 3), (2, 3), (0, 0))),
    ((2, 2, 3), ((1, 0, 1), (1, 0, 2), (0, 1, 1), (0, 1, 1), (0, 0, 1))),
]


def known_count(places, steps):
    """How many ascending rows of so many steps are whole rounds, by units and partitions."""
    return len(units_of(places)) * COUNTS[places - steps] if steps <= places else 0


def round_numbers():
    """All numbers of places and steps that are let, up to places."""
    return [(places, steps) for places in range(2, 401) for steps in range(places // 2 + 2, places + 1)]


def all_pairs(places, steps):
    """A dict from each row, ascending, to all pairs of a step and integers that sum to the places and tell it."""
    found = {}
    for unit in units_of(places):
        for integers in ascending_turns(places, steps):
            if 0 not in integers and sum(integers) == places:
                told = sorted([(unit * integer % places, integer) for integer in integers])
                row = as_row([at for at, _ in told])
                found.setdefault(row, []).append(((unit,), tuple([integer for _, integer in told])))
    return found


def all_partings(places):
    """All ways to part a tuple of places into lots, each an ascending tuple of lots."""
    if not places:
        return [()]
    ways = []
    for lot in all_lots(places[1:]):
        mine = (places[0],) + tuple([places[1 + at] for at in lot])
        rest = tuple([place for place in places if place not in mine])
        ways = ways + [(mine,) + others for others in all_partings(rest)]
    return ways


def whole_partings(wheels, row):
    """All ascending tuples of lots that are whole rounds, each step being in just one."""
    whole = [lot for lot in all_lots(row) if is_whole_round(wheels, tuple([row[place] for place in lot]))]
    return [lots for lots in all_partings(tuple(range(len(row)))) if all([lot in whole for lot in lots])]


class ExamplesTest(unittest.TestCase):
    def test_answers(self):
        row = ((2,), (2,), (4,), (2,))
        self.assertIs(is_round((5,), row), True)
        self.assertEqual(round_teller(5, row), ((2,), (1, 1, 2, 1)))
        self.assertEqual(count_rounds(5, 4), 4)
        self.assertEqual(round_rows(4, 4), (((1,), (1,), (1,), (1,)), ((3,), (3,), (3,), (3,))))
        self.assertIs(shows_parted((3,), ((0,), (1,), (2,)), ((0,), (1, 2))), True)

    def test_error(self):
        self.assertEqual(error(parted, (3,), ((1,), (1,))), fault("NotHome"))


class IsRoundTest(unittest.TestCase):
    def test_all_small_rows(self):
        many = 0
        for wheels, most in SMALL:
            for steps in range(most + 1):
                for row in product(all_steps(wheels), repeat=steps):
                    whole = is_whole_round(wheels, row)
                    many = many + whole
                    with self.subTest(wheels=wheels, row=row):
                        self.assertIs(answer(is_round, wheels, row), whole)
        self.assertGreater(many, 500)

    def test_edges(self):
        for wheels, row, whole in (
            ((7,), (), False), ((2, 2, 3), (), False), ((7,), ((0,),), True), ((2, 2, 3), ((0, 0, 0),), True),
            ((7,), ((0,), (0,)), False), ((7,), ((3,), (0,), (4,)), False), ((7,), ((3,),), False),
            ((7,), ((3,), (4,)), True), ((7,), ((3,), (4,), (3,), (4,)), False), ((40,), ((3,),) * 40, True),
            ((39,), ((3,),) * 40, False), ((20,), ((3,),) * 40, False), ((80,), ((2,),) * 40, True),
            ((400,), ((10,),) * 40, True), ((400,), ((10,),) * 39 + ((0,),), False), ((400,), ((10,),) * 39, False),
            ((2, 2, 100), ((1, 1, 5),) * 20, True), ((2, 2, 100), ((1, 1, 5),) * 40, False),
            ((20, 20), ((1, 0),) * 19 + ((1, 1),) + ((0, 1),) * 19, True),
            ((20, 20), ((1, 0),) * 20 + ((0, 1),) * 20, False),
        ):
            with self.subTest(wheels=wheels, row=row):
                self.assertIs(answer(is_round, wheels, row), whole)
        self.assertEqual(error(is_round, (7,), ((1,),) * 41), fault("BadRow", index=None))


class AllRoundsTest(unittest.TestCase):
    """Every answer for long whole rounds against all rows, worked out one by one."""

    def test_all_ascending_rows(self):
        for places, most in MOST.items():
            for steps in range(places // 2 + 2, most + 1):
                pairs = all_pairs(places, steps)
                found = []
                for turns in ascending_turns(places, steps):
                    row = as_row(turns)
                    if self.is_whole(places, turns):
                        found.append(row)
                        self.assertEqual(len(pairs[row]), 1)
                        self.assertEqual(answer(round_teller, places, row), pairs[row][0])
                    else:
                        self.assertIsNone(round_teller(places, row))
                        self.assertNotIn(row, pairs)
                with self.subTest(places=places, steps=steps):
                    self.assertEqual(answer(count_rounds, places, steps), len(found))
                    self.assertEqual(answer(round_rows, places, steps), tuple(found))

    def is_whole(self, places, turns):
        """Whether a row leads home, but without any one of its steps no lot of it does."""
        if sum(turns) % places:
            return False
        without = [turns[:at] + turns[at + 1:] for at in range(len(turns))]
        return not any(0 in reached_numbers(places, rest) for rest in without)

    def test_integers_stand_in_the_order_of_the_row(self):
        for turns in permutations((5, 5, 10, 15, 5, 5)):
            integers = tuple([turn // 5 for turn in turns])
            self.assertEqual(round_teller(9, as_row([turn % 9 for turn in turns])), ((5,), integers))

    def test_rows_in_any_order(self):
        for places, steps in ((3, 3), (4, 4), (5, 4), (5, 5)):
            pairs = all_pairs(places, steps)
            for row in product(as_row(range(places)), repeat=steps):
                with self.subTest(places=places, row=row):
                    self.assertEqual(answer(round_teller, places, row), told_by(pairs, row))


class RoundEdgesTest(unittest.TestCase):
    def test_places(self):
        for value in WRONG_PLACES:
            with self.subTest(value=value):
                self.assertEqual(error(count_rounds, value, 300), fault("BadNumber"))
                self.assertEqual(error(round_rows, value, 300), fault("BadNumber"))
                self.assertEqual(error(round_teller, value, ((0,),) * 40), fault("BadNumber"))

    def test_steps(self):
        for function in (count_rounds, round_rows):
            for value in WRONG_COUNTS + [0]:
                for places in (2, 3, 7, 400):
                    with self.subTest(function=function.__name__, places=places, value=value):
                        self.assertEqual(error(function, places, value), fault("BadNumber"))

    def test_least_number_of_steps(self):
        for places in range(2, 401):
            # Of even places half and two more, since one more is less than one and a half more.
            least = places // 2 + 2 if places % 2 == 0 else (places + 3) // 2
            for steps in (1, least - 2, least - 1):
                self.assertEqual(error(count_rounds, places, steps), fault("BadNumber"))
                self.assertEqual(error(round_rows, places, steps), fault("BadNumber"))
            self.assertEqual(count_rounds(places, least), known_count(places, least))
        self.assertEqual(count_rounds(8, 6), 8)
        self.assertEqual(error(count_rounds, 8, 5), fault("BadNumber"))
        self.assertEqual(count_rounds(9, 6), 18)
        self.assertEqual(error(count_rounds, 9, 5), fault("BadNumber"))

    def test_round_teller_takes_rows_of_so_many_steps(self):
        for places in range(2, 401):
            for steps in range(41):
                row = ((1,),) * (steps - 1) + (((1 - steps) % places,),) if steps else ()
                if 2 * steps < places + 3:
                    self.assertEqual(error(round_teller, places, row), fault("BadNumber"))
                elif steps <= places:
                    told = ((1,), (1,) * (steps - 1) + (places - steps + 1,))
                    self.assertEqual(round_teller(places, row), told)
                else:
                    self.assertIsNone(round_teller(places, row))

    def test_wrong_rows_before_short_ones(self):
        for row, index in (
            (None, None), ([], None), ([(1,)] * 5, None), (((1,),) * 41, None), (((7,),), 0), (((1,), (True,)), 1),
            (((1,), (2,), 3), 2), (((1, 1),) * 5, 0), ((None,), 0), (((1,),) * 6 + ((-1,),), 6),
        ):
            with self.subTest(row=row):
                self.assertEqual(error(round_teller, 7, row), fault("BadRow", index=index))
        for places in (2, 3, 7, 400):
            self.assertEqual(error(round_teller, places, ()), fault("BadNumber"))
        self.assertEqual(error(round_teller, 7, ((1,), (6,))), fault("BadNumber"))
        self.assertEqual(error(round_teller, 400, ((1,),) * 41), fault("BadRow", index=None))

    def test_forty_steps(self):
        self.assertEqual(answer(round_teller, 77, ((5,),) * 39 + ((190 % 77,),)), ((5,), (1,) * 39 + (38,)))
        self.assertEqual(answer(round_teller, 76, ((5,),) * 39 + ((185 % 76,),)), ((5,), (1,) * 39 + (37,)))
        self.assertEqual(error(round_teller, 78, ((5,),) * 39 + ((195 % 78,),)), fault("BadNumber"))
        self.assertEqual(answer(round_teller, 40, ((3,),) * 40), ((3,), (1,) * 40))
        self.assertIsNone(answer(round_teller, 40, ((4,),) * 40))
        self.assertIsNone(answer(round_teller, 40, ((0,),) * 40))
        self.assertIsNone(answer(round_teller, 39, ((1,),) * 40))

    def test_more_steps_than_places(self):
        for places in (2, 3, 4, 7, 10, 99, 399):
            for steps in (places + 1, places + 2, 400):
                if places // 2 + 2 <= steps <= 400:
                    self.assertEqual(answer(count_rounds, places, steps), 0)
                    self.assertEqual(answer(round_rows, places, steps), ())

    def test_as_many_steps_as_places(self):
        for places in (4, 5, 6, 30, 399, 400):
            self.assertEqual(count_rounds(places, places), len(units_of(places)))
            rows = tuple([((unit,),) * places for unit in units_of(places)])
            self.assertEqual(answer(round_rows, places, places), rows)
            if places > 4:
                self.assertEqual(count_rounds(places, places - 1), len(units_of(places)))


class ManyRoundsTest(unittest.TestCase):
    def test_all_counts(self):
        for places, steps in round_numbers()[::97]:
            with self.subTest(places=places, steps=steps):
                self.assertEqual(answer(count_rounds, places, steps), known_count(places, steps))
        self.assertEqual(count_rounds(400, 202), 160 * COUNTS[198])

    def test_more_than_5000_rows(self):
        # There are no places and steps with just 5000 rows: the most below are 4980, the least above 5016.
        known = [(known_count(places, steps), places, steps) for places, steps in round_numbers()]
        above = sorted([numbers for numbers in known if numbers[0] > 5000])
        self.assertEqual(above[0][0], 5016)
        for count, places, steps in above[:60] + above[60::500] + [(known_count(400, 202), 400, 202)]:
            with self.subTest(places=places, steps=steps, count=count):
                self.assertEqual(error(round_rows, places, steps), fault("TooMany", most=5000))

    def test_5000_rows_and_fewer(self):
        known = [(known_count(places, steps), places, steps) for places, steps in round_numbers()]
        let = sorted([numbers for numbers in known if numbers[0] <= 5000])
        self.assertEqual(let[-1][0], 4980)
        for count, places, steps in let[-3:] + let[::80]:
            with self.subTest(places=places, steps=steps, count=count):
                self.check_rows(places, steps, count)

    def check_rows(self, places, steps, count):
        rows = round_rows(places, steps)
        self.assertEqual(len(rows), count)
        self.assertTrue(are_ascending(rows, steps))
        for row in rows:
            self.assertEqual(sum([turn for turn, in row]) % places, 0)
        for row in rows[::50]:
            self.assertNotIn(0, reached_numbers(places, [turn for turn, in row[1:]]))
            if steps <= 40:
                self.assertTrue(is_round((places,), row))

    def test_too_many_behind_the_other_errors(self):
        for places, steps in ((None, 300), (401, 300), (400, None), (400, 201), (400, 401), (400, True), (1, 0)):
            self.assertEqual(error(round_rows, places, steps), fault("BadNumber"))
        self.assertEqual(error(round_rows, 400, 202), fault("TooMany", most=5000))


class PartedTest(unittest.TestCase):
    def check(self, wheels, row):
        """What parted gives is lots that are whole rounds, ascending, each step being in just one."""
        lots = answer(parted, wheels, row)
        self.assertIs(type(lots), tuple)
        self.assertEqual(list(lots), sorted(lots))
        for lot in lots:
            self.assertIs(type(lot), tuple)
            self.assertEqual(list(lot), sorted(lot))
            self.assertTrue(is_round(wheels, tuple([row[place] for place in lot])))
        self.assertEqual(sorted([place for lot in lots for place in lot]), list(range(len(row))))
        self.assertIs(answer(shows_parted, wheels, row, lots), True)
        return lots

    def test_all_small_rows(self):
        for wheels, most in SMALL:
            for steps in range(most + 1):
                for row in product(all_steps(wheels), repeat=steps):
                    with self.subTest(wheels=wheels, row=row):
                        if any(sum_of(wheels, row, range(steps))):
                            self.assertEqual(error(parted, wheels, row), fault("NotHome"))
                            self.assertEqual(error(shows_parted, wheels, row, ()), fault("NotHome"))
                        else:
                            self.assertIn(self.check(wheels, row), whole_partings(wheels, row))

    def test_rows_that_lead_home(self):
        for wheels, row in HOME_ROWS:
            with self.subTest(wheels=wheels, row=row):
                self.assertIn(self.check(wheels, row), whole_partings(wheels, row))

    def test_the_void_row(self):
        for wheels in ((7,), (4, 6), (2, 2, 3)):
            self.assertEqual(answer(parted, wheels, ()), ())
            self.assertIs(answer(shows_parted, wheels, (), ()), True)
            for value in ANY_VALUES + [None]:
                self.assertIs(answer(shows_parted, wheels, (), value), False)

    def test_many_homes(self):
        self.assertEqual(self.check((7,), ((0,),) * 40), tuple([(place,) for place in range(40)]))
        row = ((0, 0), (3, 5)) * 3 + ((1, 1),) * 3
        lots = self.check((4, 6), row)
        self.assertTrue({(0,), (2,), (4,)} < set(lots))
        self.assertEqual(len(lots), 6)

    def test_forty_steps(self):
        self.assertEqual(self.check((40,), ((3,),) * 40), (tuple(range(40)),))
        halves = (tuple(range(20)), tuple(range(20, 40)))
        self.assertEqual(self.check((20, 20), ((1, 0),) * 20 + ((0, 1),) * 20), halves)
        self.assertEqual(len(self.check((2,), ((1,),) * 40)), 20)
        self.assertEqual(len(self.check((8,), ((5,),) * 40)), 5)
        for wheels in ((7,), (400,), (4, 6), (20, 20), (4, 10, 10), (2, 2, 3)):
            steps = all_steps(wheels)
            row = tuple([steps[(at * at * 37 + at * 11 + 5) % len(steps)] for at in range(39)])
            last = sum_of(wheels, row, range(39))
            row = row + (tuple([-at % places for at, places in zip(last, wheels)]),)
            with self.subTest(wheels=wheels):
                self.assertGreater(len(self.check(wheels, row)), 1)

    def test_not_home(self):
        for wheels, row in (
            ((7,), ((1,),)), ((7,), ((0,), (1,))), ((4, 6), ((2, 3), (2, 2))), ((4, 6), ((2, 3), (0, 3))),
            ((2, 2, 3), ((1, 1, 1), (1, 1, 1))), ((400,), ((10,),) * 39), ((400,), ((1,),) * 40),
        ):
            with self.subTest(wheels=wheels, row=row):
                self.assertEqual(error(parted, wheels, row), fault("NotHome"))
                for value in (None, (), ((0,),), 1, [], {}):
                    self.assertEqual(error(shows_parted, wheels, row, value), fault("NotHome"))

    def test_not_home_behind_the_errors_of_both_arguments(self):
        for wheels, row, expected in (
            (None, ((1,),), fault("BadWheels", index=None)), ((1,), ((1,),), fault("BadWheels", index=0)),
            ((7,), ((1,), (7,)), fault("BadRow", index=1)), ((7,), ((1,),) * 41, fault("BadRow", index=None)),
            ((7,), [(1,)], fault("BadRow", index=None)), ((7,), ((1,), True), fault("BadRow", index=1)),
        ):
            with self.subTest(wheels=wheels, row=row):
                self.assertEqual(error(parted, wheels, row), expected)
                for value in (None, (), ((0,),)):
                    self.assertEqual(error(shows_parted, wheels, row, value), expected)


class ShowsPartedTest(unittest.TestCase):
    def test_all_ways_to_part_a_row(self):
        for wheels, row in HOME_ROWS:
            let = whole_partings(wheels, row)
            self.assertGreater(len(let), 0)
            for lots in all_partings(tuple(range(len(row)))):
                with self.subTest(wheels=wheels, row=row, lots=lots):
                    self.assertIs(answer(shows_parted, wheels, row, lots), lots in let)

    def test_changed_lots(self):
        for wheels, row in HOME_ROWS:
            for lots in whole_partings(wheels, row):
                for value in self.changed(lots, len(row)):
                    with self.subTest(wheels=wheels, row=row, value=value):
                        self.assertIs(answer(shows_parted, wheels, row, value), False)

    def changed(self, lots, steps):
        """Values that are wrong since lots are left out, twice, out of order, or changed."""
        values = [
            list(lots), [list(lot) for lot in lots], (lots,), [lots], lots + ((),), ((),) + lots, str(lots), None,
            lots + ((steps,),), lots + ((-1,),), lots + ((0,),), lots + (None,), lots + ([],), {1: lots},
            dict.fromkeys(lots), (None,) + lots, lots + (0,), lots + ((None,),), lots + ((True,),), lots + (({},),),
        ]
        values = values + [order for order in permutations(lots) if order != lots]
        for at, lot in enumerate(lots):
            before, behind = lots[:at], lots[at + 1:]
            values = values + [before + behind, before + (lot, lot) + behind, before + (list(lot),) + behind]
            values = values + [before + (lot + lot,) + behind, before + (lot + (steps,),) + behind]
            values = values + [before + (lot + (None,),) + behind, before + (((),) + lot,) + behind]
            values = values + [before + (lot[1:],) + behind, before + (lot[:-1],) + behind, before + (None,) + behind]
            values = values + [before + ((place - steps,) + lot[1:],) + behind for place in lot[:1]]
            values = values + [before + (order,) + behind for order in permutations(lot) if order != lot]
        return values

    def test_true_and_false_are_no_places(self):
        row = ((1,), (4,), (0,))
        self.assertIs(shows_parted((5,), row, ((0, 1), (2,))), True)
        for value in (((False, 1), (2,)), ((0, True), (2,)), ((False, True), (2,)), (("0", 1), (2,))):
            self.assertIs(shows_parted((5,), row, value), False)
        self.assertIs(shows_parted((5,), ((0,), (0,)), ((False,), (True,))), False)

    def test_any_value_is_answered(self):
        for wheels, row in HOME_ROWS:
            for value in ANY_VALUES + [None]:
                with self.subTest(wheels=wheels, row=row, value=value):
                    self.assertIs(answer(shows_parted, wheels, row, value), value == ((0,),) and row == ((0,),))

    def test_each_lot_is_a_whole_round(self):
        row = ((1,), (4,), (1,), (4,), (0,))
        for value, shown in (
            (((0, 1), (2, 3), (4,)), True), (((0, 3), (1, 2), (4,)), True), (((0, 1, 2, 3), (4,)), False),
            (((0, 1, 4), (2, 3)), False), (((0, 2), (1, 3), (4,)), False), (((0, 1, 2, 3, 4),), False),
            (((0,), (1,), (2,), (3,), (4,)), False), (((0, 1), (2, 3)), False), (((0, 1), (1, 2), (2, 3), (4,)), False),
        ):
            with self.subTest(value=value):
                self.assertIs(answer(shows_parted, (5,), row, value), shown)

    def test_forty_steps(self):
        row = ((1,), (4,)) * 20
        pairs = tuple([(place, place + 1) for place in range(0, 40, 2)])
        self.assertIs(answer(shows_parted, (5,), row, pairs), True)
        self.assertIs(answer(shows_parted, (5,), row, pairs[:-1]), False)
        self.assertIs(answer(shows_parted, (5,), row, pairs[:-1] + ((38, 40),)), False)
        self.assertIs(answer(shows_parted, (5,), row, pairs[:-2] + ((36, 39), (37, 38))), True)
        self.assertIs(answer(shows_parted, (5,), row, pairs[:-2] + ((36, 38), (37, 39))), False)
        self.assertIs(answer(shows_parted, (5,), row, (tuple(range(40)),)), False)


if __name__ == "__main__":
    unittest.main()
