"""Numbers for the states of a machine."""


class Numbering:
    """States, numbered from 0 in the order in which they are met."""

    def __init__(self):
        self.states = []
        self.numbers = {}

    def number_of(self, state):
        """The number of a state, a new one if it was not met before."""
        if state not in self.numbers:
            self.numbers[state] = len(self.states)
            self.states.append(state)
        return self.numbers[state]

    def state_of(self, number):
        """The state that has this number."""
        return self.states[number]
