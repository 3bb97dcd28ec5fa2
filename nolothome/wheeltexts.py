"""Texts of wheels and a row."""

from nolothome.checks import MOST_PLACES, MOST_STEPS, check_row, check_wheels, is_step
from nolothome.errors import BadLine, BadText
from nolothome.wheels import is_wheels

WHEELS = "wheels"
STEPS = "steps"


def write_row(wheels, row):
    """Give the text of wheels and a row."""
    check_wheels(wheels)
    check_row(wheels, row)
    steps = [",".join([str(turn) for turn in step]) for step in row]
    lines = [[WHEELS] + [str(places) for places in wheels], [STEPS] + steps]
    return "\n".join([" ".join(words) for words in lines])


def read_row(text):
    """Give the pair of the wheels and the row that a text tells."""
    if not isinstance(text, str):
        raise BadText()
    lines = numbered_lines(text)
    wheels = read_wheels(lines[0])
    row = read_steps(lines[1], wheels)
    if len(lines) > 3:
        raise BadLine(lines[2][0], 1)
    return (wheels, row)


def numbered_lines(text):
    """Give the number and the words of each line that is not void, and of the void one behind the text."""
    lines = text.split("\n")
    numbered = []
    # The line behind the text is where a line that lacks would stand: its first word lacks.
    for number, line in enumerate(lines + [""], start=1):
        # Only a space parts words, not all that split() without a sign takes for one.
        words = [word for word in line.split(" ") if word != ""]
        if len(words) > 0 or number > len(lines):
            numbered.append((number, words))
    return numbered


def read_wheels(line):
    """Give the wheels that a line tells."""
    number, words = line
    check_first_word(line, WHEELS)
    if len(words) == 1:
        raise BadLine(number, 2)
    integers = integers_by_text()
    wheels = ()
    for at, word in enumerate(words[1:], start=2):
        wheels = (*wheels, integers.get(word))
        if not is_wheels(wheels):
            raise BadLine(number, at)
    return wheels


def read_steps(line, wheels):
    """Give the row of steps of wheels that a line tells."""
    number, words = line
    check_first_word(line, STEPS)
    integers = integers_by_text()
    row = ()
    for at, word in enumerate(words[1:], start=2):
        step = tuple([integers.get(part) for part in word.split(",")])
        if len(row) >= MOST_STEPS or not is_step(wheels, step):
            raise BadLine(number, at)
        row = (*row, step)
    return row


def check_first_word(line, first):
    """Raise BadLine if the first word of a line lacks or is another one."""
    number, words = line
    if words[:1] != [first]:
        raise BadLine(number, 1)


def integers_by_text():
    """Give for each text of an integer that may stand, written without a needless zero, the integer."""
    # What int() reads besides, signs and digits of other scripts among it, is no such text.
    return {str(integer): integer for integer in range(MOST_PLACES + 1)}
