"""The errors of the package."""


class PlainError(ValueError):
    """The base of all errors of the package."""


class NoText(PlainError):
    """Something is not a text."""


class NoDoor(PlainError):
    """Something is not a tuple of distinct names of doors."""


class NothingToUndo(PlainError):
    """There is no change left to take back."""


class NoStep(PlainError):
    """There is no step at this index."""

    def __init__(self, index):
        PlainError.__init__(self, "there is no step at this index")
        self.index = index


class NoDeed(PlainError):
    """There is no deed at this index."""

    def __init__(self, index):
        PlainError.__init__(self, "there is no deed at this index")
        self.index = index


class NoForm(PlainError):
    """This form is not there."""

    def __init__(self, form):
        PlainError.__init__(self, "this form is not there")
        self.form = form


class NoPart(PlainError):
    """The part with this index writes no step."""

    def __init__(self, part):
        PlainError.__init__(self, "the part with this index writes no step")
        self.part = part


class NoLine(PlainError):
    """The line with this index is wrong or missing."""

    def __init__(self, line):
        PlainError.__init__(self, "the line with this index is wrong or missing")
        self.line = line
