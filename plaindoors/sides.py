"""One of the two texts of a comparison: what two rows of steps write of it."""

from plaindoors.chains import Chain
from plaindoors.numbering import Numbering


class Move:
    """A letter that is read, what the measured row writes of it, and the number of the next state."""

    def __init__(self, letter, written, behind, thrifty):
        self.letter = letter
        self.written = written
        self.behind = behind
        self.thrifty = thrifty


class Side:
    """Two rows of steps that read the same text: the matched one and the measured one.

    For each state there are the silent moves, at which neither row writes anything; the
    spoken moves, in a dict by what the matched row writes; and the betraying letter, at
    which only the measured row writes, "" if there is none. Thrifty moves are enough to
    have the matched row write whatever it may write, of as few letters as possible.
    """

    def __init__(self, matched, measured, letters):
        self.letters = letters
        self.matched = Chain(matched, letters)
        self.measured = Chain(measured, letters)
        self.known = Numbering()
        self.known.number_of((0, 0))
        self.betraying = {}
        self.silent = {}
        self.spoken = {}

    def unfold(self, number):
        """Work out the moves from a state, once."""
        if number in self.silent:
            return
        state = self.known.state_of(number)
        matched, measured = state
        silent = []
        spoken = {}
        self.betraying[number] = ""
        rows = self.matched.row(matched)
        others = self.measured.row(measured)
        for letter, (written, behind), (told, beside) in zip(self.letters, rows, others):
            if written != "":
                spoken.setdefault(written, []).append((letter, told, (behind, beside)))
            elif told != "":
                self.betraying[number] = letter
            elif (behind, beside) != state:
                silent.append((letter, told, (behind, beside)))
        # A silent move is a letter for nothing where the state before it covers the one behind it.
        self.silent[number] = self.thinned(silent, [matched])
        self.spoken[number] = {written: self.thinned(spoken[written], []) for written in spoken}

    def thinned(self, ways, better):
        """The moves of these ways without doubles; states that better ones cover are not thrifty."""
        chosen = {}
        for letter, told, state in ways:
            if (told, state) not in chosen:
                chosen[told, state] = letter
        needed = self.needed([state[0] for told, state in chosen], better)
        moves = []
        for (told, state), letter in chosen.items():
            thrifty = state[0] in needed
            if thrifty:
                needed.remove(state[0])
            moves.append(Move(letter, told, self.known.number_of(state), thrifty))
        return moves

    def needed(self, numbers, better):
        """Those of these states of the matched row that neither better ones nor others cover."""
        needed = []
        for number in numbers:
            if not any([self.matched.covers(other, number) for other in better + needed]):
                needed = [other for other in needed if not self.matched.covers(number, other)]
                needed.append(number)
        return needed
