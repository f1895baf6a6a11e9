"""The doors of a store, what it answers to deeds, and whether it answers as the wish has it."""

from plaindoors.characters import is_text
from plaindoors.compare import unlike
from plaindoors.errors import NoDeed, NoDoor
from plaindoors.hunts import hunt_for, shortest

NAMES = ("put", "find", "strike")


class Doors:
    """The foldings of the three doors of a store, and the wish."""

    def __init__(self, put, find, strike, wish):
        self._put = put
        self._find = find
        self._strike = strike
        self._wish = wish

    def __eq__(self, other):
        if not isinstance(other, Doors):
            return False
        doors = (self._put, self._find, self._strike, self._wish)
        return doors == (other._put, other._find, other._strike, other._wish)

    def put(self):
        """The folding by which texts are put."""
        return self._put

    def find(self):
        """The folding by which texts are found."""
        return self._find

    def strike(self):
        """The folding by which texts are struck."""
        return self._strike

    def wish(self):
        """The folding that says which texts are to count as the same."""
        return self._wish

    def folded(self, names):
        """The doors of which those that are named fold by the wish."""
        if not _are_names(names):
            raise NoDoor("the names are a tuple of distinct ones of put, find and strike")
        put = self._wish if "put" in names else self._put
        find = self._wish if "find" in names else self._find
        strike = self._wish if "strike" in names else self._strike
        return Doors(put, find, strike, self._wish)


def answers(doors, deeds):
    """The list of the answers to a list of deeds, in order."""
    _check_deeds(deeds)
    foldings = _foldings_of(doors)
    forms = set()
    told = []
    for name, text in deeds:
        folding = foldings[name]
        form = folding(text)
        there = form in forms
        told.append(not there if name == "put" else there)
        if name == "put":
            forms.add(form)
        elif name == "strike":
            forms.discard(form)
    return told


def wished(doors, deeds):
    """The list of the answers that a store gives whose doors all fold by the wish."""
    return answers(doors.folded(NAMES), deeds)


def first_break(doors):
    """A shortest list of deeds to which the answers are not the wished ones, or None.

    A put, and one deed more, are always enough. For let none such be answered otherwise than
    wished. Where a text is put and then found, or struck, it is there, as the wish has it: so
    the three doors make the same of every text. Where one text is put and then another, the
    answer tells whether both have one form: so the doors make the same of just those texts of
    which the wish makes the same. Then no list of deeds is answered otherwise than wished.
    """
    put = doors.put().steps()
    wish = doors.wish().steps()
    names = []
    hunts = []
    for steps, name in _names_by_steps(doors).items():
        # Two texts that get one form, though not by the wish; and two that do by the wish only.
        hunts.append(hunt_for(put, steps, wish, wish))
        hunts.append(hunt_for(wish, wish, put, steps))
        names.extend([name, name])
    told = shortest(hunts)
    if told is None:
        return None
    at, first, second = told
    return [("put", first), (names[at], second)]


def are_right(doors):
    """Whether the answers to all lists of deeds are the wished ones."""
    return first_break(doors) is None


def fewest_folded(doors):
    """The fewest names of doors that have to fold by the wish so that the doors are right."""
    if are_right(doors):
        return ()
    # As soon as one door folds by the wish, each has to make of every text what the wish does.
    foldings = _foldings_of(doors)
    return tuple([name for name in NAMES if unlike(foldings[name], doors.wish()) is not None])


def _foldings_of(doors):
    """The foldings of the three doors by their names."""
    return {"put": doors.put(), "find": doors.find(), "strike": doors.strike()}


def _names_by_steps(doors):
    """The name of a door for each row of steps by which a door folds."""
    names = {}
    for name, folding in _foldings_of(doors).items():
        names.setdefault(folding.steps(), name)
    return names


def _are_names(value):
    """Whether a value is a tuple of distinct names of doors."""
    if not isinstance(value, tuple):
        return False
    if not all([_is_name(name) for name in value]):
        return False
    return len(set(value)) == len(value)


def _is_name(value):
    """Whether a value is the name of a door."""
    return isinstance(value, str) and value in NAMES


def _check_deeds(value):
    """Raise NoDeed unless a value is a list of deeds."""
    if not isinstance(value, list):
        raise NoDeed(0)
    for at, deed in enumerate(value):
        if not _is_deed(deed):
            raise NoDeed(at)


def _is_deed(value):
    """Whether a value is one of the tuples that are deeds."""
    return isinstance(value, tuple) and len(value) == 2 and _is_name(value[0]) and is_text(value[1])
