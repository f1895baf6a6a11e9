"""Which characters have to be looked at where foldings are compared for all texts."""

from plaindoors.characters import CHARACTERS

NAMING = ("swap", "lead", "once")


def letters_for(rows):
    """Characters that stand for all others in what the rows of steps make of texts.

    Two characters that no step but a drop names, and that the same drops leave out, take
    each other's place in any text without changing what is left out: one is enough.
    Where a step makes letters small, a small letter and its capital are such a pair.
    """
    steps = [step for row in rows for step in row]
    named = "".join(["".join(step[1:]) for step in steps if step[0] in NAMING])
    paired = any([step[0] == "lower" for step in steps])
    drops = [step[1] for step in steps if step[0] == "drop"]
    told = {}
    chosen = []
    for character in CHARACTERS:
        family = _family(character, paired)
        if any([member in named for member in family]):
            chosen.append(character)
            continue
        # The last item keeps a small letter and its capital apart.
        marks = tuple([_dropped(member, drops) for member in family])
        kind = (marks, character == family[0])
        if kind not in told:
            told[kind] = character
            chosen.append(character)
    return chosen


def _family(character, paired):
    """The character, or the small letter and its capital if they belong together."""
    if paired and character.isalpha():
        return [character.lower(), character.upper()]
    return [character]


def _dropped(character, drops):
    """For each string of characters left out whether it has this one."""
    return tuple([character in left_out for left_out in drops])
