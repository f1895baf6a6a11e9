"""The characters of which texts consist."""

CHARACTERS = "abcdefghijklmnopqrstuvwxyzABCDEFGHIJKLMNOPQRSTUVWXYZ0123456789 -._/'"
LONGEST_TEXT = 60


def is_character(value):
    """Whether a value is a string of one character of the package's."""
    return isinstance(value, str) and len(value) == 1 and value in CHARACTERS


def is_text(value):
    """Whether a value is a string of at most 60 characters of the package's."""
    if not isinstance(value, str) or len(value) > LONGEST_TEXT:
        return False
    return all([character in CHARACTERS for character in value])
