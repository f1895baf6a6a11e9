"""The search for two texts that two rows of steps match and two others tell apart."""

from plaindoors.letters import letters_for
from plaindoors.sides import Side

# Which of the two texts has taken a move that is not thrifty.
NEITHER = 0
LEFT = 1
RIGHT = 2


class Hunt:
    """A search over the states of both sides, in the order of how many letters lead to them.

    A place is a state of the left side, one of the right side, and which side was not
    thrifty. Where a place is met, the matched rows have written the same, and the measured
    rows, too: beginnings of matched texts are matched with each other, so the search ends
    at the first letter that tells two texts apart.

    Not both texts need letters that are not thrifty. For let x and y be a shortest pair,
    and p and q the shortest texts of which the matched rows write the same as of x and y.
    If the measured rows tell p and q apart, p and q are as good a pair. Otherwise the
    measured rows write something else of x than of p, or of y than of q: so x and q are as
    good a pair, or p and y.
    """

    def __init__(self, left, right):
        self.left = left
        self.right = right
        self.origins = {}
        self.ending = None
        self.now = [((0, 0, NEITHER), None, "", "")]
        self.soon = []

    def is_over(self):
        """Whether there are no places left to meet."""
        return not self.now and not self.soon

    def go_on(self):
        """Meet the places to which one letter more leads than to those that were met last."""
        singles, pairs = self.meet(self.now)
        self.now = self.soon + singles
        self.soon = pairs

    def meet(self, entries):
        """Meet the places of some entries; the entries to which one letter leads, and two letters."""
        singles = []
        pairs = []
        for place, origin, first, second in entries:
            if self.was_met(place):
                continue
            self.origins[place] = (origin, first, second)
            # One letter is better than the two of an ending that another place may have noted.
            if self.note_betrayal(place):
                break
            singles.extend(self.moves_alone(place))
            pairs.extend(self.moves_together(place))
        return singles, pairs

    def was_met(self, place):
        """Whether the search was here, or here with more freedom to go on."""
        return place in self.origins or (place[0], place[1], NEITHER) in self.origins

    def note_betrayal(self, place):
        """Note a letter of one side that tells the texts apart; whether there is one."""
        left, right, _ = place
        self.left.unfold(left)
        self.right.unfold(right)
        first = self.left.betraying[left]
        if first != "":
            self.ending = (place, first, "")
            return True
        second = self.right.betraying[right]
        if second != "":
            self.ending = (place, "", second)
            return True
        return False

    def moves_alone(self, place):
        """Where one letter leads of which nothing is written."""
        left, right, waster = place
        moves = []
        for move in self.left.silent[left]:
            if move.thrifty or waster != RIGHT:
                target = (move.behind, right, waster if move.thrifty else LEFT)
                if not self.was_met(target):
                    moves.append((target, place, move.letter, ""))
        for move in self.right.silent[right]:
            if move.thrifty or waster != LEFT:
                target = (left, move.behind, waster if move.thrifty else RIGHT)
                if not self.was_met(target):
                    moves.append((target, place, "", move.letter))
        return moves

    def moves_together(self, place):
        """Where two letters lead, one for each side, of which the matched rows write the same.

        Where the measured rows do not, this is noted as an ending.
        """
        left, right, waster = place
        spoken = self.right.spoken[right]
        moves = []
        for written, firsts in self.left.spoken[left].items():
            if written not in spoken:
                continue
            for first in firsts:
                for second in spoken[written]:
                    spender = _spender(waster, first, second)
                    if spender is None:
                        continue
                    if first.written != second.written:
                        self.ending = (place, first.letter, second.letter)
                        continue
                    target = (first.behind, second.behind, spender)
                    if not self.was_met(target):
                        moves.append((target, place, first.letter, second.letter))
        return moves

    def texts(self):
        """The two texts whose last letters were found."""
        place, first, second = self.ending
        while place is not None:
            place, before, beside = self.origins[place]
            first = before + first
            second = beside + second
        return first, second


def _spender(waster, first, second):
    """Which side has not been thrifty after two moves, or None if both have not."""
    if not first.thrifty:
        return LEFT if waster != RIGHT and second.thrifty else None
    if not second.thrifty:
        return RIGHT if waster != LEFT else None
    return waster


def hunt_for(first, second, third, fourth):
    """The search for texts of which the first two rows of steps make the same, the others do not."""
    letters = letters_for((first, second, third, fourth))
    return Hunt(Side(first, third, letters), Side(second, fourth, letters))


def shortest(hunts):
    """The index of a search whose two texts have the fewest letters together, and these; or None.

    The searches go on side by side, so that none goes farther than the shortest texts are long.
    """
    while not all([hunt.is_over() for hunt in hunts]):
        found = []
        for at, hunt in enumerate(hunts):
            hunt.go_on()
            if hunt.ending is not None:
                first, second = hunt.texts()
                found.append((len(first + second), at, first, second))
        # Texts that are found at the same time may differ by a letter; those found later have no fewer.
        if found:
            return min(found)[1:]
    return None
