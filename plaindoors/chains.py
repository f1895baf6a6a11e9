"""A row of steps as a machine that reads a text of any length, letter by letter."""

from plaindoors.numbering import Numbering
from plaindoors.steps import made_by_step

REMEMBERING = ("lead", "once", "cut")

# The state in which a cut is used up: no letter that follows makes any difference.
DEAD = ("dead",)


class Chain:
    """The states that a row of steps may be in, numbered from 0 as they are met.

    A state has a number for each step that remembers something: for a lead 1 as long as
    nothing has passed it, for a once 1 if the last to come was its character, for a cut
    how many may still pass. At each letter the machine writes one letter, or nothing.
    """

    def __init__(self, steps, letters):
        remembering = [step for step in steps if step[0] in REMEMBERING]
        self.names = [step[0] for step in remembering]
        self.ways = [_way(steps, letter) for letter in letters]
        self.known = Numbering()
        self.known.number_of(self.narrowed([_beginning(step) for step in remembering]))
        self.rows = {}

    def row(self, number):
        """For each letter what is written, and the number of the next state."""
        if number not in self.rows:
            state = self.known.state_of(number)
            self.rows[number] = [self.move(state, way) for way in self.ways]
        return self.rows[number]

    def move(self, state, way):
        """What is written of a letter that goes this way, and the number of the next state."""
        if state == DEAD:
            return "", self.known.number_of(DEAD)
        meetings, written = way
        new = list(state)
        for at, own in enumerate(meetings):
            if self.names[at] == "cut":
                new[at] = new[at] - 1
            elif own and new[at] == 1:
                return "", self.known.number_of(self.narrowed(new))
            else:
                new[at] = 1 if own and self.names[at] == "once" else 0
        return written, self.known.number_of(self.narrowed(new))

    def narrowed(self, state):
        """The state as a tuple, the same one for states that do not differ in what may follow."""
        least = -1
        new = []
        for at, number in enumerate(state):
            # What comes to a cut has passed those before it: it lets no more pass than they do.
            if self.names[at] == "cut":
                least = number if least < 0 else min(least, number)
                number = least
            new.append(number)
        return DEAD if least == 0 else tuple(new)

    def covers(self, number, other):
        """Whether all that may be written from the other state may be from this one, of no more letters."""
        strong = self.known.state_of(number)
        weak = self.known.state_of(other)
        if strong == weak or weak == DEAD:
            return True
        if strong == DEAD:
            return False
        # With longer cuts each letter fares alike, until one cut of the weak state is used up.
        for at, name in enumerate(self.names):
            if strong[at] < weak[at] or (name != "cut" and strong[at] != weak[at]):
                return False
        return True


def _beginning(step):
    """What a step remembers before the first letter."""
    if step[0] == "cut":
        return step[1]
    return 1 if step[0] == "lead" else 0


def _way(steps, letter):
    """For each remembering step that a letter comes to, whether it is its own; and what is written of it."""
    meetings = []
    for step in steps:
        if step[0] in REMEMBERING:
            meetings.append(letter == step[1])
            continue
        letter = made_by_step(step, letter)
        if letter == "":
            return meetings, ""
    return meetings, letter
