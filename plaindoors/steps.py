"""The steps of which foldings consist."""

from plaindoors.characters import is_character

MOST_DROPPED = 10
LONGEST_CUT = 9


def is_integer(value):
    """Whether a value is an integer; True and False are none."""
    return isinstance(value, int) and not isinstance(value, bool)


def is_step(value):
    """Whether a value is one of the tuples that are steps."""
    if not isinstance(value, tuple) or len(value) == 0 or not isinstance(value[0], str):
        return False
    name = value[0]
    if name == "lower":
        return len(value) == 1
    if name == "swap":
        return len(value) == 3 and is_character(value[1]) and is_character(value[2])
    if len(value) != 2:
        return False
    if name == "drop":
        return _is_choice(value[1])
    if name == "lead" or name == "once":
        return is_character(value[1])
    return name == "cut" and is_integer(value[1]) and 1 <= value[1] <= LONGEST_CUT


def _is_choice(value):
    """Whether a value is a string of 1 to 10 distinct characters."""
    if not isinstance(value, str) or not 1 <= len(value) <= MOST_DROPPED:
        return False
    return len(set(value)) == len(value) and all([is_character(character) for character in value])


def made_by_steps(steps, text):
    """What the steps make of a text, one behind the other."""
    for step in steps:
        text = made_by_step(step, text)
    return text


def made_by_step(step, text):
    """What one step makes of a text."""
    name = step[0]
    if name == "lower":
        return text.lower()
    if name == "swap":
        return text.replace(step[1], step[2])
    if name == "drop":
        return "".join([character for character in text if character not in step[1]])
    if name == "lead":
        return text.lstrip(step[1])
    if name == "once":
        return _once(text, step[1])
    return text[:step[1]]


def _once(text, single):
    """The text without each `single` that stands directly behind another one."""
    kept = [at for at in range(len(text)) if text[at] != single or at == 0 or text[at - 1] != single]
    return "".join([text[at] for at in kept])
