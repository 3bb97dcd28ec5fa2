"""Point 10: texts of wheels and a row, written and read."""

import unittest
from itertools import product

from helper import WRONG_WHEELS, all_steps, answer, error, fault, wrong_rows
from nolothome.wheeltexts import read_row, write_row

# Wheels, a row, and the text of both.
TEXTS = [
    ((3, 4), ((1, 3), (2, 2)), "wheels 3 4\nsteps 1,3 2,2"), ((5,), ((1,), (4,)), "wheels 5\nsteps 1 4"),
    ((5,), (), "wheels 5\nsteps"), ((2,), ((0,),), "wheels 2\nsteps 0"), ((400,), ((399,),), "wheels 400\nsteps 399"),
    ((2, 2, 100), ((1, 0, 99), (0, 0, 0)), "wheels 2 2 100\nsteps 1,0,99 0,0,0"), ((4, 6), (), "wheels 4 6\nsteps"),
    ((2, 2, 3), (), "wheels 2 2 3\nsteps"), ((20, 20), ((10, 10), (10, 10)), "wheels 20 20\nsteps 10,10 10,10"),
    ((7,), ((3,),) * 40, "wheels 7\nsteps" + " 3" * 40), ((2, 200), ((1, 107),), "wheels 2 200\nsteps 1,107"),
]
# All rows of up to so many steps of these wheels are written and read.
SMALL = [((2,), 5), ((3,), 4), ((12,), 2), ((2, 2), 3), ((3, 4), 2), ((11, 12), 1), ((2, 2, 2), 2), ((2, 3, 11), 1)]
# Other ways to write the text of the wheels (3, 4) and the row ((1, 3), (2, 2)).
SAME = [
    " wheels 3 4\nsteps 1,3 2,2", "wheels 3 4 \nsteps 1,3 2,2", "wheels  3   4\nsteps 1,3 2,2",
    "wheels 3 4\n steps 1,3 2,2", "wheels 3 4\nsteps  1,3  2,2", "wheels 3 4\nsteps 1,3 2,2    ",
    "     wheels    3  4   \n    steps     1,3     2,2  ", "\nwheels 3 4\nsteps 1,3 2,2", "wheels 3 4\n\nsteps 1,3 2,2",
    "wheels 3 4\nsteps 1,3 2,2\n", "\n\n\nwheels 3 4\n\n\n\nsteps 1,3 2,2\n\n\n", "  \nwheels 3 4\nsteps 1,3 2,2",
    "wheels 3 4\n     \nsteps 1,3 2,2", "wheels 3 4\nsteps 1,3 2,2\n ",
    " \n\n  \nwheels 3 4 \n \n \n steps 1,3 2,2 \n ",
    " " * 999 + "\n" * 999 + "wheels 3" + " " * 999 + "4" + "\n" * 999 + "steps 1,3 2,2" + "\n " * 999,
]
# Words that are no wheel, wherever they stand.
NO_WHEELS = [
    "1", "0", "401", "02", "002", "00", "x", "-3", "+3", "-0", "3.0", "3.", ".3", "3,", ",3", "3,4", ",", "0x3", "1e1",
    "3_0", "1_0", "_3", "999", "1000", "4000", "9" * 5000, "2" * 5000, "0" * 5000 + "2", "-" * 9, "three", "None",
    "True", "wheels", "steps", "(3)", "'3'", "3\t", "\t3", "\t", "3\r", "\r", "3\x0b", "3\x0c", "\x0c3", "3\x00",
    "3\x1c", "\u0663", "\uff13", "\u00b3", "\u00a03", "3\u00a0", "3\u2003", "3\u2028", "3\u0085",
    "\u2167", "\u4e09", "\ud800",
]
# Words that are no step of the wheels (3, 4).
NO_STEPS = [
    "1", "1,", ",1", ",", ",,", "1,3,", ",1,3", "1,,3", "1,3,0", "1,3,", "0,0,0", "3,3", "1,4", "3,4", "00,3", "1,03",
    "1,00", "01,3", "-1,3", "1,-1", "-0,3", "1,-0", "+1,3", "1,+3", "1.3", "1;3", "1, 3", "1 ,3", "1 , 3", "x", "x,3",
    "1,x", "(1,3)", "1.0,3", "1_0,3", "1,3_0", "True,3", "1,True", "None,3", "10,3", "1,10", "1,400", "1,401",
    "1," + "3" * 5000, "9" * 5000 + ",3", "1,3\t", "\t1,3", "1,\t3", "1\t,3", "1,3\r", "1,3\x0c", "1,3\x00", "\t",
    "\u0661,3", "1,\u0663", "1,\uff13", "1,\u00b3", "1\uff0c3", "1,3\u00a0", "1,3\u2028", "1,3\x85", "1,3\x1d",
    "wheels", "steps", "0x1,3", "1,3e0", "'1,3'", "\ud800,3",
]
NO_TEXTS = [
    None, True, False, 0, 5, -1, 10 ** 30, (), ("wheels 5\nsteps 1",), [], ["wheels 5", "steps 1"], {},
    {"wheels 5\nsteps 1": "wheels 5\nsteps 1"}, ((5,), ((1,),)), (None,), [None], {5: 1},
]


def line_fault(line, word):
    return fault("BadLine", line=line, word=word)


def noisy(text, seed):
    """A text with more spaces and void lines, which mean nothing."""
    lines = []
    for at, line in enumerate(text.split("\n")):
        words = [" " * ((seed + at * 3 + place) % 4) + word for place, word in enumerate(line.split(" "))]
        lines = lines + [" " * ((seed + place) % 3) for place in range((seed + at) % 3)]
        lines.append(" ".join(words) + " " * ((seed + at) % 2))
    return "\n".join(lines) + "\n" * (seed % 3)


class TextTest(unittest.TestCase):
    def check(self, text, line, word):
        """A text is read with BadLine, also where spaces are put around words, and void lines before and behind."""
        with self.subTest(text=text[:200]):
            self.assertEqual(error(read_row, text), line_fault(line, word))
            spaced = "\n".join(["  " + some.replace(" ", "   ") + " " for some in text.split("\n")])
            self.assertEqual(error(read_row, spaced), line_fault(line, word))
            self.assertEqual(error(read_row, "\n \n" + text), line_fault(line + 2, word))


class ExamplesTest(unittest.TestCase):
    def test_answers(self):
        self.assertEqual(write_row((3, 4), ((1, 3), (2, 2))), "wheels 3 4\nsteps 1,3 2,2")
        self.assertEqual(read_row("wheels 5\nsteps 1 4"), ((5,), ((1,), (4,))))

    def test_error(self):
        self.assertEqual(error(read_row, "wheels 3\nsteps 3"), line_fault(2, 2))


class BothWaysTest(unittest.TestCase):
    def check(self, wheels, row, text):
        self.assertEqual(answer(write_row, wheels, row), text)
        # Shown as Python writes them, so kinds of values are compared, too.
        self.assertEqual(repr(answer(read_row, text)), repr((wheels, row)))
        for seed in range(6):
            self.assertEqual(answer(read_row, noisy(text, seed)), (wheels, row))

    def test_texts(self):
        for wheels, row, text in TEXTS:
            with self.subTest(text=text):
                self.check(wheels, row, text)

    def test_all_small_rows(self):
        for wheels, most in SMALL:
            for steps in range(most + 1):
                for row in product(all_steps(wheels), repeat=steps):
                    words = [",".join(map(str, step)) for step in row]
                    text = " ".join(["wheels", *map(str, wheels)]) + "\n" + " ".join(["steps", *words])
                    with self.subTest(text=text):
                        self.check(wheels, row, text)

    def test_all_wheels(self):
        lets = [(first,) for first in range(2, 401)]
        lets = lets + [(first, second) for first in range(2, 201) for second in range(2, 400 // first + 1)]
        lets = lets + [(first, 2, third) for first in range(2, 101) for third in range(2, 200 // first + 1)]
        for wheels in lets:
            last = tuple([places - 1 for places in wheels])
            text = "wheels " + " ".join(map(str, wheels)) + "\nsteps " + ",".join(map(str, last))
            self.assertEqual(write_row(wheels, (last,)), text)
            self.assertEqual(read_row(text), (wheels, (last,)))
            self.assertEqual(read_row(write_row(wheels, ())), (wheels, ()))

    def test_all_turns_of_one_wheel(self):
        for turn in range(400):
            self.assertEqual(write_row((400,), ((turn,),)), "wheels 400\nsteps " + str(turn))
            self.assertEqual(read_row("wheels 400\nsteps " + str(turn)), ((400,), ((turn,),)))

    def test_forty_steps(self):
        for wheels in ((400,), (20, 20), (4, 10, 10)):
            steps = all_steps(wheels)
            row = tuple([steps[(at * at * 37 + at * 11 + 5) % len(steps)] for at in range(40)])
            text = answer(write_row, wheels, row)
            self.assertEqual(len(text.split("\n")), 2)
            self.assertEqual(len(text.split(" ")), len(wheels) + 41)
            self.assertEqual(answer(read_row, text), (wheels, row))


class WriteTest(unittest.TestCase):
    def test_no_space_or_newline_too_many(self):
        for wheels, row, _ in TEXTS:
            text = write_row(wheels, row)
            self.assertIs(type(text), str)
            self.assertEqual([line.strip() for line in text.split("\n")], text.split("\n"))
            self.assertNotIn("  ", text)

    def test_wrong_wheels(self):
        for wheels, index in WRONG_WHEELS:
            for row in ((), ((3, 5),), None, ((9, 9),)):
                with self.subTest(wheels=wheels, row=row):
                    self.assertEqual(error(write_row, wheels, row), fault("BadWheels", index=index))

    def test_wrong_rows(self):
        for row, index in wrong_rows():
            with self.subTest(row=row):
                self.assertEqual(error(write_row, (4, 6), row), fault("BadRow", index=index))


class SpacesTest(unittest.TestCase):
    def test_spaces_and_void_lines(self):
        for text in SAME:
            with self.subTest(text=text[:200]):
                self.assertEqual(answer(read_row, text), ((3, 4), ((1, 3), (2, 2))))

    def test_with_the_void_row(self):
        for text in ("wheels 3\nsteps", " wheels  3 \n steps ", "\nwheels 3\n\nsteps\n\n", "wheels 3\n \nsteps  \n  "):
            self.assertEqual(answer(read_row, text), ((3,), ()))


class NoTextTest(unittest.TestCase):
    def test_values_that_are_no_string(self):
        for value in NO_TEXTS:
            with self.subTest(value=value):
                self.assertEqual(error(read_row, value), fault("BadText"))


class FirstWordTest(TextTest):
    def test_of_the_line_of_wheels(self):
        for word in (
            "wheel", "Wheels", "WHEELS", "wheelsx", "xwheels", "steps", "3", "wheels3", "wheels,3", "wheels,", "w", "-",
            "wheels:", "\twheels", "wheels\t", "wheels\r", "\ufeffwheels", "wheels\t3",
            "\u00a0wheels", "\r", "\t", "\x0c",
        ):
            for rest in (" 3\nsteps 1", "\nsteps 1", " x 401\nsteps", "", " 3", "\nx\nx\nx", " wheels 3\nsteps 1"):
                self.check(word + rest, 1, 1)

    def test_of_the_line_of_steps(self):
        for word in (
            "step", "Steps", "STEPS", "stepsx", "xsteps", "wheels", "1", "1,3", "steps1",
            "steps,1,3", "s", "-", "steps:",
            "\tsteps", "steps\t", "steps\r", "\ufeffsteps", "steps\t1,3", "\u00a0steps", "\r", "\t", "\x0b",
        ):
            for rest in (" 1,3", "", " x 4", "\nsteps 1,3", "\nx", " 1,3\nsteps 1,3", " steps 1,3"):
                self.check("wheels 3 4\n" + word + rest, 2, 1)
                self.check("wheels 3 4\n\n \n" + word + rest, 4, 1)

    def test_lines_in_the_other_order(self):
        self.check("steps 1\nwheels 3", 1, 1)
        self.check("wheels 3\nwheels 3\nsteps 1", 2, 1)
        self.check("wheels 3 steps 1", 1, 3)


class WheelsLineTest(TextTest):
    def test_a_wheel_that_is_none(self):
        for word in NO_WHEELS:
            for rest in ("", "\nsteps", "\nsteps 1", " x\nsteps", " 401 1\nx", " 2\nsteps"):
                self.check("wheels " + word + rest, 1, 2)
                self.check("wheels 2 " + word + rest, 1, 3)
                self.check("wheels 2 3 " + word + rest, 1, 4)

    def test_a_fourth_wheel(self):
        for word in ["2", "3", "400"] + NO_WHEELS:
            for rest in ("", "\nsteps 1,1,1", " 2\nsteps 1,1,1,1", "\nx"):
                self.check("wheels 2 2 2 " + word + rest, 1, 5)
                self.check("wheels 2 2 100 " + word + rest, 1, 5)

    def test_a_product_above_400(self):
        for before, last in (
            ("20", 20), ("2", 200), ("200", 2), ("399", 1), ("400", 1), ("3", 133), ("2 2", 100),
            ("2 3", 66), ("20 20", 1),
            ("4 50", 2), ("100 2", 2), ("2 200", 1), ("7 57", 1), ("10 10", 4),
        ):
            at = len(before.split(" ")) + 2
            if last > 1:
                self.assertEqual(len(read_row("wheels " + before + " " + str(last) + "\nsteps")[0]), at - 1)
            for wheel in (last + 1, last + 2, 399, 400):
                for rest in ("", "\nsteps", " 2\nsteps", " x\nx"):
                    self.check("wheels " + before + " " + str(wheel) + rest, 1, at)

    def test_no_wheel(self):
        for text in (
            "wheels", "wheels\nsteps", "wheels\nsteps 1", "wheels\nx", "wheels\n3\nsteps 1", "wheels\n\n\nsteps x",
        ):
            self.check(text, 1, 2)
        self.assertEqual(error(read_row, "wheels \nsteps"), line_fault(1, 2))
        self.assertEqual(error(read_row, "\n\n  wheels   \n\n"), line_fault(3, 2))


class StepsLineTest(TextTest):
    def test_a_step_that_is_none(self):
        for word in NO_STEPS:
            for rest in ("", " 1,3", " x", "\nx", "\n\nsteps 1,3"):
                self.check("wheels 3 4\nsteps " + word + rest, 2, 2)
                self.check("wheels 3 4\nsteps 1,3 2,2 " + word + rest, 2, 4)
                self.check("wheels 3 4\n\nsteps" + " 0,3" * 39 + " " + word + rest, 3, 41)

    def test_spaces_part_the_integers_of_a_step(self):
        self.check("wheels 3 4\nsteps 1,3 1, 3", 2, 3)
        self.check("wheels 3\nsteps 1 ,", 2, 3)

    def test_as_many_integers_as_wheels(self):
        for wheels in ("5", "5 6", "5 6 7"):
            for many in range(1, 6):
                text = "wheels " + wheels + "\nsteps " + ",".join(["1"] * many)
                if many == len(wheels.split(" ")):
                    self.assertEqual(read_row(text)[1], ((1,) * many,))
                else:
                    self.check(text, 2, 2)

    def test_integers_are_below_the_places(self):
        for places in (2, 3, 9, 10, 11, 99, 100, 101, 399, 400):
            text = "wheels " + str(places) + "\nsteps 0 " + str(places - 1)
            self.assertEqual(read_row(text), ((places,), ((0,), (places - 1,))))
            for turn in (places, places + 1, 400, 401, 1000, 10 ** 30):
                self.check(text + " " + str(turn), 2, 4)
            for turn in ("00", "01", "-1", "-0", "+1", "0" + str(places - 1), "1,", ",1"):
                self.check(text + " " + turn + " 1", 2, 4)
        self.check("wheels 3 4\nsteps 2,2 3,2", 2, 3)
        self.check("wheels 4 3\nsteps 2,2 2,3", 2, 3)

    def test_the_fortieth_and_the_forty_first_step(self):
        full = "wheels 3 4\nsteps" + " 1,3" * 40
        self.assertEqual(answer(read_row, full), ((3, 4), ((1, 3),) * 40))
        self.assertEqual(answer(read_row, full + "  \n"), ((3, 4), ((1, 3),) * 40))
        for word in ["1,3", "0,0"] + NO_STEPS:
            for rest in ("", " 1,3", " x", "\nx"):
                self.check(full + " " + word + rest, 2, 42)
        self.check("wheels 3 4\nsteps x" + " 1,3" * 40, 2, 2)
        self.check("wheels 3 4\nsteps" + " 1,3" * 39 + " 3,3 1,3", 2, 41)
        self.check("wheels 3 4\nsteps" + " 1,3" * 1000, 2, 42)


class ThirdLineTest(TextTest):
    def test_a_third_line(self):
        for third in ("x", "steps", "steps 1,3", "wheels 3 4", "wheels", "1,3", "0", "\t", "\r", ",", "x y z"):
            for rest in ("", "\n", "\nx", "\nsteps", " \n\n x"):
                self.check("wheels 3 4\nsteps 1,3\n" + third + rest, 3, 1)
                self.check("wheels 3 4\nsteps\n" + third + rest, 3, 1)
                self.check("wheels 3 4\n\nsteps 1,3\n \n\n" + third + rest, 6, 1)

    def test_behind_faults_of_the_lines_before(self):
        self.check("wheels 3 401\nsteps 1,3\nx", 1, 3)
        self.check("wheels 3 4\nsteps 1,4\nx", 2, 2)
        self.check("wheels\nsteps\nx", 1, 2)


class LineThatLacksTest(TextTest):
    def test_a_text_of_nothing(self):
        # Newlines part lines, so one more line than newlines is there, be they void.
        for text, line in (("", 2), ("\n", 3), (" ", 2), ("   ", 2), ("\n\n", 4), (" \n ", 3), ("\n" * 99, 101)):
            with self.subTest(text=text):
                self.assertEqual(error(read_row, text), line_fault(line, 1))

    def test_the_line_of_steps(self):
        for text, line in (
            ("wheels 3", 2), ("wheels 3\n", 3), ("wheels 3\n\n", 4), ("\nwheels 3", 3), ("\n\nwheels 3 4\n \n", 6),
            ("wheels 2 2 100  ", 2), ("wheels 3\n   ", 3), ("wheels 3" + "\n" * 50, 52),
        ):
            with self.subTest(text=text):
                self.assertEqual(error(read_row, text), line_fault(line, 1))

    def test_behind_faults_of_the_line_of_wheels(self):
        for text, word in (
            ("wheels", 2), ("wheels x", 2), ("wheels 3 x", 3), ("wheels 20 21", 3), ("steps 1", 1), ("x", 1),
        ):
            self.check(text, 1, word)
            self.check(text + "\n", 1, word)


if __name__ == "__main__":
    unittest.main()
