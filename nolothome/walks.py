"""Walks: steps taken one behind another, and taken back."""

from nolothome.checks import MOST_STEPS, check_step, check_wheels
from nolothome.errors import NoStep, TooMany
from nolothome.sums import home_lot, sums
from nolothome.wheels import add_steps, home_step


class Walk:
    """Somebody who takes steps, at home at first."""

    def __init__(self, wheels):
        check_wheels(wheels)
        self._wheels = wheels
        # Tuples that are replaced and not changed, so those handed out stay as they are.
        self._row = ()
        self._places = (home_step(wheels),)

    def take(self, step):
        """Take a step."""
        check_step(self._wheels, step)
        if len(self._row) >= MOST_STEPS:
            raise TooMany(MOST_STEPS)
        self._row = (*self._row, step)
        self._places = (*self._places, add_steps(self._wheels, self._places[-1], step))

    def undo(self):
        """Take the last step back."""
        if len(self._row) == 0:
            raise NoStep()
        self._row = self._row[:-1]
        self._places = self._places[:-1]

    def sums(self):
        """Give the ascending tuple of the sums of all lots, not void, of the steps so far."""
        return sums(self._wheels, self._row)

    def home_lot(self):
        """Give the least of the smallest lots, not void, of the steps so far whose sum is home, or None."""
        return home_lot(self._wheels, self._row)

    @property
    def row(self):
        """The tuple of the steps so far."""
        return self._row

    @property
    def place(self):
        """The step of all steps so far together."""
        return self._places[-1]

    @property
    def places(self):
        """The tuple of home and of the place behind each step."""
        return self._places
