"""A store that lives: its forms, the texts by which they were put, and undo."""

from plaindoors.characters import is_text
from plaindoors.errors import NoForm, NothingToUndo, NoText
from plaindoors.steps import made_by_steps


class Shelf:
    """A store with doors that can be changed.

    Each form that is there has a turn, which says in which order the forms were put, and its
    first text. What is past has a place for each change: the doors and the table of the forms
    as they were, the forms that the change added to this table, and those that it struck.
    """

    def __init__(self, doors):
        self._doors = doors
        self._table = {}
        self._turn = 0
        self._past = []

    def __len__(self):
        return len(self._table)

    def __contains__(self, x):
        return is_text(x) and made_by_steps(self._doors.find().steps(), x) in self._table

    @property
    def doors(self):
        """The doors of the shelf."""
        return self._doors

    @doors.setter
    def doors(self, value):
        self.change(value)

    def put(self, text):
        """Put a text; whether its form was not there yet."""
        return self.put_all([text])[0]

    def find(self, text):
        """Whether the form of a text is there."""
        _check_text(text)
        return text in self

    def strike(self, text):
        """Take the form of a text away; whether it was there."""
        _check_text(text)
        form = made_by_steps(self._doors.strike().steps(), text)
        if form not in self._table:
            self._note([], [])
            return False
        self._note([], [(form, self._table[form])])
        del self._table[form]
        return True

    def put_all(self, texts):
        """Put the texts of a list in order; the list of the answers."""
        _check_texts(texts)
        added = []
        told = []
        for text in texts:
            form = self._form_put(text)
            told.append(form not in self._table)
            if form not in self._table:
                self._enter(form, text)
                added.append(form)
        self._note(added, [])
        return told

    def trial(self, texts):
        """How many forms would be there if the texts of a list were put."""
        _check_texts(texts)
        forms = [self._form_put(text) for text in texts]
        return len(self._table) + len({form for form in forms if form not in self._table})

    def change(self, doors):
        """Have new doors, and put the first text of each form again through them."""
        self._note([], [])
        rows = sorted(self._table.values())
        self._doors = doors
        # The table as it was is kept for undo, so it is not emptied but left.
        self._table = {}
        for _, text in rows:
            form = self._form_put(text)
            if form not in self._table:
                self._enter(form, text)

    def undo(self):
        """Take back the last change that is not taken back."""
        if not self._past:
            raise NothingToUndo("there is no change left to take back")
        doors, table, added, struck = self._past.pop()
        for form in added:
            del table[form]
        for form, row in struck:
            table[form] = row
        self._doors = doors
        self._table = table

    def forms(self):
        """The ascending list of the forms that are there."""
        return sorted(self._table)

    def first_text(self, form):
        """The text by which a form that is there was put."""
        if not isinstance(form, str) or form not in self._table:
            raise NoForm(form)
        return self._table[form][1]

    def _form_put(self, text):
        """The form by which a text is put."""
        return made_by_steps(self._doors.put().steps(), text)

    def _enter(self, form, text):
        """Have a form that is not there yet, behind all others."""
        self._table[form] = (self._turn, text)
        self._turn += 1

    def _note(self, added, struck):
        """Note what undo needs, before the doors or the table are other ones."""
        self._past.append((self._doors, self._table, added, struck))


def _check_text(value):
    """Raise NoText unless a value is a text."""
    if not is_text(value):
        raise NoText("a shelf takes strings of at most 60 of the characters")


def _check_texts(value):
    """Raise NoText unless a value is a list of texts."""
    if not isinstance(value, list):
        raise NoText("a shelf takes lists of texts")
    for text in value:
        _check_text(text)
