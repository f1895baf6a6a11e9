"""The plain way to what the program works out: each text looked at, each letter for itself.

Nothing here uses the program, so that the tests hold its answers against something else.
"""

import itertools

CHARACTERS = (
    "abcdefghijklmnopqrstuvwxyz"
    "ABCDEFGHIJKLMNOPQRSTUVWXYZ"
    "0123456789"
    " -._/'"
)


def made(steps, text):
    """What steps make of a text of any length."""
    for step in steps:
        state = beginning(step)
        out = []
        for character in text:
            state, written = read(step, state, character)
            out.append(written)
        text = "".join(out)
    return text


def beginning(step):
    return {"lead": True, "once": False, "cut": 0}.get(step[0])


def read(step, state, character):
    """What a step remembers behind a character, and what it leaves of it."""
    if step[0] == "lower":
        capital = character in "ABCDEFGHIJKLMNOPQRSTUVWXYZ"
        return None, CHARACTERS[CHARACTERS.index(character) - 26] if capital else character
    if step[0] == "swap":
        return None, step[2] if character == step[1] else character
    if step[0] == "drop":
        return None, "" if character in step[1] else character
    if step[0] == "lead":
        return (True, "") if state and character == step[1] else (False, character)
    if step[0] == "once":
        own = character == step[1]
        return own, "" if own and state else character
    return (state, "") if state == step[1] else (state + 1, character)


def texts(characters, longest):
    """All texts of these characters, the short ones first."""
    found = []
    for length in range(longest + 1):
        found.extend("".join(row) for row in itertools.product(characters, repeat=length))
    return found


def least_pair(first, second, third, fourth, looked_at):
    """The least length of a pair as parting tells it, of the texts looked at, or None."""
    groups = {}
    for steps, others, side in ((first, third, 0), (second, fourth, 1)):
        for text in looked_at:
            group = groups.setdefault(made(steps, text), ({}, {}))[side]
            result = made(others, text)
            group[result] = min(len(text), group.get(result, len(text)))
    lengths = [
        length + other_length
        for lefts, rights in groups.values()
        for left, length in lefts.items()
        for right, other_length in rights.items()
        if left != right
    ]
    return min(lengths, default=None)


def all_read(steps, states, character):
    """What a row of steps remembers behind a character, and what it leaves of it."""
    states = list(states)
    for at, step in enumerate(steps):
        states[at], character = read(step, states[at], character)
        if character == "":
            break
    return tuple(states), character


def least_by_states(first, second, third, fourth, characters):
    """As least_pair, for texts of any length: each step's state by itself, nothing merged."""
    rows = (first, third, second, fourth)
    known = {}

    def moves(side, states):
        key = side, states
        if key not in known:
            known[key] = set()
            for character in characters:
                one, written = all_read(rows[2 * side], states[0], character)
                other, told = all_read(rows[2 * side + 1], states[1], character)
                known[key].add((written, told, (one, other)))
        return known[key]

    begin = [tuple(beginning(step) for step in row) for row in rows]
    waiting = [[((begin[0], begin[1]), (begin[2], begin[3]))], [], []]
    seen = set()
    least = None
    for length in itertools.count():
        if least is not None and least <= length or not any(waiting):
            return least
        now = waiting.pop(0)
        waiting.append([])
        for place in now:
            if place in seen:
                continue
            seen.add(place)
            left, right = place
            steps = [(1, move, (move[2], right)) for move in moves(0, left) if move[0] == ""]
            steps += [(1, move, (left, move[2])) for move in moves(1, right) if move[0] == ""]
            for one, move, target in steps:
                if move[1] == "":
                    waiting[0].append(target)
                else:
                    least = length + 1
            for one in moves(0, left):
                for other in moves(1, right):
                    if one[0] == "" or one[0] != other[0]:
                        continue
                    if one[1] == other[1]:
                        waiting[1].append((one[2], other[2]))
                    elif least is None:
                        least = length + 2


def told_by(doors, deeds):
    """The answers of a store to deeds; the doors are rows of steps for put, find and strike."""
    forms = []
    told = []
    for name, text in deeds:
        form = made(doors[("put", "find", "strike").index(name)], text)
        there = form in forms
        if name == "put" and not there:
            forms.append(form)
        if name == "strike" and there:
            forms.remove(form)
        told.append(there != (name == "put"))
    return told


def breaks(doors, deeds):
    """Whether deeds are answered otherwise than wished; the doors are put, find, strike, wish."""
    return told_by(doors[:3], deeds) != told_by((doors[3],) * 3, deeds)


def least_break(doors, characters):
    """The fewest characters of a break of two deeds, by the states of the steps, or None.

    A store is empty before its first put, so that no deed tells anything; behind the put of x,
    the answer to a deed with y tells whether the two have one form.
    """
    put, wish = doors[0], doors[3]
    least = []
    for door in doors[:3]:
        least.append(least_by_states(put, door, wish, wish, characters))
        least.append(least_by_states(wish, wish, put, door, characters))
    return min((length for length in least if length is not None), default=None)
