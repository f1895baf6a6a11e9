"""Foldings compared, for texts of any length."""

from plaindoors.hunts import hunt_for, shortest


def parting(first, second, third, fourth):
    """Two texts of which `first` and `second` make the same, `third` and `fourth` do not, or None."""
    return _parted(first.steps(), second.steps(), third.steps(), fourth.steps())


def unlike(folding, other):
    """A shortest text of which the two make different ones, or None."""
    return _split(folding.steps(), other.steps())


def unsettled(folding):
    """A shortest text for which applying the folding again changes something, or None."""
    return _split(folding.steps(), folding.steps() + folding.steps())


def exchanged(folding, other):
    """A shortest text for which the order of the two makes a difference, or None."""
    return _split(folding.steps() + other.steps(), other.steps() + folding.steps())


def coarser(folding, other):
    """Two texts of which `other` makes the same and `folding` does not, or None."""
    return _parted(other.steps(), other.steps(), folding.steps(), folding.steps())


def needless(folding):
    """The indexes of the steps without which, each alone, the folding makes the same."""
    return [index for index in range(len(folding)) if unlike(folding, folding.without(index)) is None]


def _parted(first, second, third, fourth):
    """Two texts of which the first two rows of steps make the same, the others do not, or None."""
    told = shortest([hunt_for(first, second, third, fourth)])
    return None if told is None else told[1:]


def _split(steps, others):
    """A shortest text of which the two rows of steps make different ones, or None."""
    # Rows without steps match a text with itself only.
    pair = _parted((), (), steps, others)
    return None if pair is None else pair[0]
