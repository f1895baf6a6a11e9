"""Promises 16 and 17, held against a plain walk over all that was done."""

import random
import unittest

from plaindoors.doors import Doors, answers
from plaindoors.errors import NoForm, NothingToUndo, NoText
from plaindoors.foldings import Folding
from plaindoors.shelves import Shelf
from tests.plain import CHARACTERS, made
from tests.test_errors import Awkward

PLAIN = Folding()
LOWER = Folding((("lower",),))
CUT = Folding((("cut", 1),))
AS_IT_IS = Doors(PLAIN, PLAIN, PLAIN, PLAIN)
SMALL = Doors(LOWER, LOWER, LOWER, PLAIN)
NO_TEXTS = (
    None, True, False, 0, 1, 1.5, b"a", b"", [], ["a"], (), ("a",), {}, {"a"}, object(), Awkward(), str,
    "a" * 61, "a" * 1000, ";", "~", "a\n", "\t", "a,b", "\u0131", "\ud800",
)
NO_LISTS = (None, True, 0, 1.5, "", "a", "ab", b"ab", (), ("a",), {}, {"a"}, {"a": 1}, object(), Awkward(), list)


class Walk:
    """A store that keeps what was done to it, and does all of it again for each question."""

    def __init__(self, doors):
        self.begin = doors
        self.done = []

    def now(self):
        """The doors, and the forms with their first texts in the order in which they were put."""
        doors, table = self.begin, []
        for name, value in self.done:
            if name == "put":
                for text in value:
                    self.enter(doors, table, text)
            elif name == "strike":
                form = made(doors.strike().steps(), value)
                table = [row for row in table if row[0] != form]
            else:
                doors, rows, table = value, table, []
                for _, text in rows:
                    self.enter(doors, table, text)
        return doors, table

    def enter(self, doors, table, text):
        form = made(doors.put().steps(), text)
        new = form not in [row[0] for row in table]
        if new:
            table.append((form, text))
        return new

    def put_all(self, texts):
        doors, table = self.now()
        self.done.append(("put", list(texts)))
        return [self.enter(doors, table, text) for text in texts]

    def there(self, text):
        doors, table = self.now()
        return made(doors.find().steps(), text) in [row[0] for row in table]

    def strike(self, text):
        doors, table = self.now()
        self.done.append(("strike", text))
        return made(doors.strike().steps(), text) in [row[0] for row in table]

    def trial(self, texts):
        doors, table = self.now()
        for text in texts:
            self.enter(doors, table, text)
        return len(table)


def random_folding(chance):
    steps = (("lower",), ("swap", "a", "b"), ("swap", "B", "c"), ("drop", "-"), ("lead", "a"), ("once", "b"), ("cut", 2))
    return Folding(tuple(chance.choice(steps) for _ in range(chance.randint(0, 3))))


def random_doors(chance):
    if chance.random() < 0.5:
        folding = random_folding(chance)
        return Doors(folding, folding, folding, folding)
    return Doors(*[random_folding(chance) for _ in range(4)])


def random_text(chance):
    return "".join(chance.choice("aAbB-") for _ in range(chance.randint(0, 4)))


class WalkTest(unittest.TestCase):
    def same(self, shelf, walk):
        """Holds all that a shelf tells against the walk."""
        doors, table = walk.now()
        self.assertTrue(shelf.doors == doors)
        self.assertEqual(len(shelf), len(table))
        told = shelf.forms()
        self.assertIs(type(told), list)
        self.assertEqual(told, sorted(form for form, _ in table))
        for form, text in table:
            self.assertEqual(shelf.first_text(form), text)

    def step(self, chance, shelf, walk):
        """One thing done to both."""
        way = chance.randint(0, 10)
        text = random_text(chance)
        texts = [random_text(chance) for _ in range(chance.randint(0, 6))]
        if way <= 1:
            self.assertEqual([shelf.put(text)], walk.put_all([text]))
        elif way == 2:
            given = list(texts)
            self.assertEqual(shelf.put_all(given), walk.put_all(texts))
            self.assertEqual(given, texts)
        elif way <= 4:
            told = chance.choice(shelf.forms() or [text]) if chance.random() < 0.5 else text
            self.assertIs(shelf.strike(told), walk.strike(told))
        elif way == 5:
            self.assertIs(shelf.find(text), walk.there(text))
            self.assertIs(text in shelf, walk.there(text))
        elif way == 6:
            self.assertEqual(shelf.trial(texts), walk.trial(texts))
        elif way == 7:
            doors = random_doors(chance)
            if chance.random() < 0.5:
                self.assertIsNone(shelf.change(doors))
            else:
                shelf.doors = doors
            walk.done.append(("change", doors))
        elif way <= 9 and walk.done:
            self.assertIsNone(shelf.undo())
            walk.done.pop()
        elif not walk.done:
            with self.assertRaises(NothingToUndo):
                shelf.undo()

    def test_many(self):
        chance = random.Random(30)
        for _ in range(150):
            doors = random_doors(chance)
            shelf, walk = Shelf(doors), Walk(doors)
            for _ in range(chance.choice((10, 40, 80))):
                self.step(chance, shelf, walk)
                self.same(shelf, walk)
            while walk.done:
                shelf.undo()
                walk.done.pop()
                self.same(shelf, walk)
            with self.assertRaises(NothingToUndo):
                shelf.undo()
            self.same(shelf, walk)

    def test_answers(self):
        chance = random.Random(31)
        for _ in range(200):
            doors = random_doors(chance)
            shelf = Shelf(doors)
            deeds = [(chance.choice(("put", "find", "strike")), random_text(chance)) for _ in range(50)]
            told = [getattr(shelf, name)(text) for name, text in deeds]
            self.assertEqual(told, answers(doors, deeds))
            self.assertTrue(all(type(answer) is bool for answer in told))

    def test_as_many_as_may_be(self):
        chance = random.Random(32)
        doors = Doors(PLAIN, PLAIN, PLAIN, PLAIN)
        shelf, walk = Shelf(doors), Walk(doors)
        for at in range(190):
            texts = ["".join(chance.choices(CHARACTERS, k=chance.choice((1, 2, 60)))) for _ in range(190)]
            if at < 15:
                self.assertEqual(shelf.put_all(texts), walk.put_all(texts))
            elif at % 5 == 0:
                shelf.change(doors)
                walk.done.append(("change", doors))
            else:
                shelf.strike(texts[0])
                walk.done.append(("strike", texts[0]))
        self.same(shelf, walk)
        for _ in range(190):
            shelf.undo()
        self.assertEqual((len(shelf), shelf.forms()), (0, []))
        with self.assertRaises(NothingToUndo):
            shelf.undo()


class DeedsTest(unittest.TestCase):
    def setUp(self):
        self.shelf = Shelf(SMALL)
        self.shelf.put_all(["Bob", "ann", "Cid"])

    def test_new(self):
        shelf = Shelf(doors=SMALL)
        self.assertEqual((len(shelf), shelf.forms()), (0, []))
        self.assertTrue(shelf.doors == SMALL)
        self.assertNotIn("", shelf)
        self.assertIs(shelf.find(""), False)

    def test_put(self):
        self.assertIs(self.shelf.put("BOB"), False)
        self.assertIs(self.shelf.put(text="Dan"), True)
        self.assertEqual(self.shelf.forms(), ["ann", "bob", "cid", "dan"])
        self.assertEqual(self.shelf.first_text("bob"), "Bob")
        self.assertEqual(self.shelf.first_text(form="dan"), "Dan")

    def test_find(self):
        self.assertIs(self.shelf.find("BOB"), True)
        self.assertIs(self.shelf.find(text="bo"), False)
        self.assertIs("BOB" in self.shelf, True)
        self.assertIs("bo" in self.shelf, False)

    def test_doors_of_their_own(self):
        shelf = Shelf(Doors(CUT, LOWER, PLAIN, PLAIN))
        shelf.put_all(["Ann", "ann"])
        self.assertEqual(shelf.forms(), ["A", "a"])
        self.assertEqual((shelf.find("A"), "A" in shelf, shelf.find("Ann"), "Ann" in shelf), (True, True, False, False))
        self.assertEqual((shelf.strike("Ann"), shelf.strike("a"), shelf.find("A")), (False, True, False))
        self.assertEqual(shelf.forms(), ["A"])

    def test_strike(self):
        self.assertIs(self.shelf.strike("BOB"), True)
        self.assertIs(self.shelf.strike(text="BOB"), False)
        self.assertEqual(self.shelf.forms(), ["ann", "cid"])
        self.assertIs(self.shelf.put("boB"), True)
        self.assertEqual(self.shelf.first_text("bob"), "boB")

    def test_empty_form(self):
        drop = Folding((("drop", "ab"),))
        shelf = Shelf(Doors(drop, drop, drop, drop))
        self.assertEqual((shelf.put("ab"), shelf.put("")), (True, False))
        self.assertEqual((len(shelf), shelf.forms(), shelf.first_text("")), (1, [""], "ab"))
        self.assertEqual(("" in shelf, "ba" in shelf, shelf.find("b")), (True, True, True))
        self.assertEqual((shelf.strike("a"), shelf.forms()), (True, []))
        shelf.undo()
        self.assertEqual((shelf.forms(), shelf.first_text("")), ([""], "ab"))
        self.assertEqual(shelf.trial([]), 1)
        shelf.undo()
        shelf.undo()
        self.assertEqual((shelf.forms(), "" in shelf), ([], False))

    def test_forms_are_ordered_as_strings(self):
        shelf = Shelf(AS_IT_IS)
        shelf.put_all(list(CHARACTERS) + ["ab", "", "a"])
        self.assertEqual(shelf.forms(), sorted(list(CHARACTERS) + ["ab", ""]))

    def test_put_all(self):
        told = self.shelf.put_all(["Dan", "dan", "ann", ""])
        self.assertEqual(told, [True, False, False, True])
        self.assertEqual(self.shelf.put_all(texts=[]), [])
        self.assertEqual(self.shelf.first_text("dan"), "Dan")
        self.assertEqual(self.shelf.forms(), ["", "ann", "bob", "cid", "dan"])

    def test_trial(self):
        for texts, count in (([], 3), (["ann", "BOB"], 3), (["Dan", "dan", "ann"], 4), (["", "x", "X", "y"], 6)):
            self.assertEqual(self.shelf.trial(texts), count)
            self.assertIs(type(self.shelf.trial(texts=texts)), int)
        self.assertEqual(self.shelf.forms(), ["ann", "bob", "cid"])
        self.shelf.undo()
        self.assertEqual(len(self.shelf), 0)

    def test_passed_lists_stay(self):
        texts = ["Dan", "dan", "Eva"]
        self.shelf.put_all(texts)
        self.shelf.trial(texts)
        self.assertEqual(texts, ["Dan", "dan", "Eva"])
        texts.clear()
        self.assertEqual(self.shelf.forms(), ["ann", "bob", "cid", "dan", "eva"])
        self.shelf.undo()
        self.assertEqual(self.shelf.forms(), ["ann", "bob", "cid"])

    def test_told_lists_are_new(self):
        forms = self.shelf.forms()
        forms.append("more")
        self.assertEqual(self.shelf.forms(), ["ann", "bob", "cid"])
        told = self.shelf.put_all(["Dan"])
        told.append("more")
        forms.clear()
        self.shelf.undo()
        self.assertEqual(self.shelf.forms(), ["ann", "bob", "cid"])


class UndoTest(unittest.TestCase):
    def test_what_counts(self):
        shelf = Shelf(AS_IT_IS)
        shelf.put("a")
        shelf.put("a")
        shelf.find("a")
        shelf.strike("b")
        shelf.put_all([])
        shelf.trial(["c"])
        shelf.change(AS_IT_IS)
        shelf.doors = AS_IT_IS
        shelf.forms()
        # Five of these changed nothing, but are taken back before the first put.
        for _ in range(5):
            self.assertIsNone(shelf.undo())
            self.assertEqual(shelf.forms(), ["a"])
        shelf.undo()
        self.assertEqual(shelf.forms(), [])
        with self.assertRaises(NothingToUndo) as caught:
            shelf.undo()
        self.assertEqual(len(caught.exception.args), 1)
        self.assertIsInstance(caught.exception.args[0], str)

    def test_nothing_to_undo(self):
        shelf = Shelf(SMALL)
        for _ in range(3):
            with self.assertRaises(NothingToUndo):
                shelf.undo()
        shelf.find("a")
        shelf.trial(["a"])
        with self.assertRaises(NothingToUndo):
            shelf.undo()
        self.assertTrue(shelf.doors == SMALL)
        shelf.put("a")
        shelf.undo()
        with self.assertRaises(NothingToUndo):
            shelf.undo()

    def test_put_again_behind_undo(self):
        shelf = Shelf(SMALL)
        shelf.put("Ann")
        shelf.undo()
        self.assertIs(shelf.put("ANN"), True)
        self.assertEqual(shelf.first_text("ann"), "ANN")

    def test_first_text_behind_undo(self):
        shelf = Shelf(SMALL)
        shelf.put("Ann")
        shelf.strike("ann")
        shelf.put("ANN")
        self.assertEqual(shelf.first_text("ann"), "ANN")
        shelf.undo()
        self.assertNotIn("ann", shelf)
        shelf.undo()
        self.assertEqual(shelf.first_text("ann"), "Ann")

    def test_order_behind_undo_of_a_strike(self):
        shelf = Shelf(AS_IT_IS)
        shelf.put_all(["Ann", "ann", "Bob"])
        shelf.strike("Ann")
        shelf.undo()
        shelf.change(SMALL)
        self.assertEqual(shelf.first_text("ann"), "Ann")
        shelf.undo()
        shelf.strike("Ann")
        shelf.put("Ann")
        shelf.change(SMALL)
        self.assertEqual(shelf.first_text("ann"), "ann")


class ChangeTest(unittest.TestCase):
    def test_change(self):
        for by_name in (True, False):
            shelf = Shelf(AS_IT_IS)
            shelf.put_all(["Bob", "ann", "Ann", "bob", "Cid"])
            if by_name:
                self.assertIsNone(shelf.change(doors=SMALL))
            else:
                shelf.doors = SMALL
            self.assertTrue(shelf.doors == SMALL)
            self.assertEqual(shelf.forms(), ["ann", "bob", "cid"])
            self.assertEqual([shelf.first_text(form) for form in shelf.forms()], ["ann", "Bob", "Cid"])
            # What was lost does not come back by other doors, only by undo.
            shelf.change(AS_IT_IS)
            self.assertEqual(shelf.forms(), ["Bob", "Cid", "ann"])
            shelf.undo()
            self.assertEqual(shelf.forms(), ["ann", "bob", "cid"])
            shelf.undo()
            self.assertTrue(shelf.doors == AS_IT_IS)
            self.assertEqual(shelf.forms(), ["Ann", "Bob", "Cid", "ann", "bob"])
            shelf.undo()
            self.assertEqual(len(shelf), 0)

    def test_first_texts_not_forms_are_put_again(self):
        shelf = Shelf(Doors(CUT, CUT, CUT, CUT))
        shelf.put_all(["Ann", "Abe", "bob"])
        shelf.change(SMALL)
        self.assertEqual(shelf.forms(), ["ann", "bob"])

    def test_order_of_puts(self):
        # The earlier put stays, whichever form comes first among the strings.
        for texts in (["b", "B"], ["B", "b"]):
            shelf = Shelf(AS_IT_IS)
            shelf.put_all(texts)
            shelf.change(SMALL)
            self.assertEqual(shelf.first_text("b"), texts[0])
            shelf.change(Doors(CUT, CUT, CUT, CUT))
            self.assertEqual(shelf.forms(), [texts[0]])

    def test_order_behind_a_change(self):
        shelf = Shelf(AS_IT_IS)
        shelf.put_all(["x1", "X2"])
        shelf.change(SMALL)
        shelf.put("x0")
        shelf.change(Doors(CUT, CUT, CUT, CUT))
        self.assertEqual([(form, shelf.first_text(form)) for form in shelf.forms()], [("X", "X2"), ("x", "x1")])

    def test_doors_are_told(self):
        shelf = Shelf(SMALL)
        doors = shelf.doors
        shelf.doors = AS_IT_IS
        self.assertTrue(doors == SMALL)
        self.assertTrue(shelf.doors == AS_IT_IS)


class WrongTest(unittest.TestCase):
    def setUp(self):
        self.shelf = Shelf(SMALL)
        self.shelf.put_all(["Bob", "ann"])
        self.shelf.strike("bob")

    def tearDown(self):
        """No error has changed anything, and none is to be undone."""
        self.assertTrue(self.shelf.doors == SMALL)
        self.assertEqual((self.shelf.forms(), self.shelf.first_text("ann")), (["ann"], "ann"))
        self.shelf.undo()
        self.assertEqual(self.shelf.forms(), ["ann", "bob"])
        self.shelf.undo()
        self.assertEqual(self.shelf.forms(), [])
        with self.assertRaises(NothingToUndo):
            self.shelf.undo()

    def test_no_text(self):
        for value in NO_TEXTS:
            for call in (self.shelf.put, self.shelf.find, self.shelf.strike):
                with self.assertRaises(NoText) as caught:
                    call(value)
                self.assertEqual(len(caught.exception.args), 1)
                self.assertIsInstance(caught.exception.args[0], str)
            self.assertIs(value in self.shelf, False)
            self.assertIs(value not in self.shelf, True)

    def test_no_texts(self):
        for call in (self.shelf.put_all, self.shelf.trial):
            for value in NO_TEXTS:
                for texts in ([value], ["new", value], [value, "new"], ["new"] * 189 + [value]):
                    before = list(texts)
                    with self.assertRaises(NoText):
                        call(texts)
                    self.assertTrue(all(one is other for one, other in zip(texts, before)))
            for value in NO_LISTS:
                with self.assertRaises(NoText):
                    call(value)

    def test_no_form(self):
        for value in NO_TEXTS + ("bob", "Ann", "Bob", "ANN", "", "an", "ann ", ("ann",), ["ann"], b"ann"):
            with self.assertRaises(NoForm) as caught:
                self.shelf.first_text(value)
            self.assertIs(caught.exception.form, value)


if __name__ == "__main__":
    unittest.main()
