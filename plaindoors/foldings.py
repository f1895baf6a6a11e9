"""Foldings: rows of steps that make texts plain."""

from plaindoors.characters import is_text
from plaindoors.errors import NoStep, NoText
from plaindoors.steps import is_integer, is_step, made_by_steps

MOST_STEPS = 6


class Folding:
    """A row of at most six steps."""

    def __init__(self, steps=()):
        if not isinstance(steps, tuple):
            raise NoStep(0)
        for at, step in enumerate(steps):
            if at >= MOST_STEPS or not is_step(step):
                raise NoStep(at)
        self._steps = steps

    def __call__(self, text):
        """What the steps make of a text."""
        if not is_text(text):
            raise NoText("a folding takes a string of at most 60 of the characters")
        return made_by_steps(self._steps, text)

    def __getitem__(self, at):
        if not is_integer(at) or not 0 <= at < len(self._steps):
            raise NoStep(at)
        return self._steps[at]

    def __iter__(self):
        # Without this, Python would go over a folding by its indexes and end in NoStep.
        raise TypeError("a folding is not iterated over; its steps() are")

    def __len__(self):
        return len(self._steps)

    def __eq__(self, other):
        return isinstance(other, Folding) and self._steps == other._steps

    def __add__(self, other):
        if not isinstance(other, Folding):
            return NotImplemented
        return Folding(self._steps + other._steps)

    def __contains__(self, x):
        return is_text(x) and made_by_steps(self._steps, x) == x

    def steps(self):
        """The tuple of the steps."""
        return self._steps

    def without(self, index):
        """The folding without the step at this index."""
        if not is_integer(index) or not 0 <= index < len(self._steps):
            raise NoStep(index)
        return Folding(self._steps[:index] + self._steps[index + 1:])
