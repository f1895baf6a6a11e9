"""Foldings and doors as texts, and such texts read."""

from plaindoors.doors import Doors
from plaindoors.errors import NoLine, NoPart, NoStep
from plaindoors.foldings import Folding
from plaindoors.steps import is_step

BETWEEN_STEPS = "; "
WITHOUT_STEPS = "plain"
DIGITS = "0123456789"

# How the four lines of the text of doors begin.
BEGINNINGS = ("put: ", "find: ", "strike: ", "wish: ")


def folding_text(folding):
    """The text of a folding."""
    if len(folding) == 0:
        return WITHOUT_STEPS
    return BETWEEN_STEPS.join([_part_of(step) for step in folding.steps()])


def read_folding(text):
    """The folding that a text writes."""
    if not isinstance(text, str):
        raise NoPart(0)
    if text == WITHOUT_STEPS:
        return Folding()
    steps = []
    for at, part in enumerate(text.split(BETWEEN_STEPS)):
        step = _step_of(part)
        if not is_step(step):
            raise NoPart(at)
        steps.append(step)
    # Here all parts write steps, so that NoStep tells of more than six and nothing else.
    return Folding(tuple(steps))


def doors_text(doors):
    """The text of doors."""
    foldings = (doors.put(), doors.find(), doors.strike(), doors.wish())
    return "\n".join([beginning + folding_text(folding) for beginning, folding in zip(BEGINNINGS, foldings)])


def read_doors(text):
    """The doors that a text writes."""
    if not isinstance(text, str):
        raise NoLine(0)
    foldings = [_folding_of(at, line) for at, line in enumerate(text.split("\n"))]
    if len(foldings) < len(BEGINNINGS):
        raise NoLine(len(foldings))
    put, find, strike, wish = foldings
    return Doors(put, find, strike, wish)


def _part_of(step):
    """The words that write a step."""
    return " ".join([step[0]] + [_word_of(value) for value in step[1:]])


def _word_of(value):
    """The word for a number or for characters."""
    if isinstance(value, int):
        return str(value)
    return value.replace(" ", "~")


def _step_of(part):
    """What the words of a part write: a step, if the part writes one."""
    words = part.split(" ")
    values = [word.replace("~", " ") for word in words[1:]]
    if words[0] == "cut":
        values = [_number_of(value) for value in values]
    return tuple([words[0]] + values)


def _number_of(word):
    """The number that one digit writes, or the word itself, which no step has as a number."""
    return int(word) if len(word) == 1 and word in DIGITS else word


def _folding_of(at, line):
    """The folding that the line with this index writes."""
    if at >= len(BEGINNINGS) or not line.startswith(BEGINNINGS[at]):
        raise NoLine(at)
    try:
        return read_folding(line[len(BEGINNINGS[at]):])
    except (NoPart, NoStep):
        raise NoLine(at) from None
