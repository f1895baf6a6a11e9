"""Promises 1 to 7, as far as foldings go."""

import copy
import random
import unittest

from plaindoors.errors import NoStep, NoText
from plaindoors.foldings import Folding
from tests.plain import CHARACTERS, made
from tests.test_errors import Awkward

SIX = (("lower",), ("swap", "a", "b"), ("drop", " -"), ("lead", "0"), ("once", "x"), ("cut", 9))
NO_STRINGS = (None, 1, 0, True, False, 1.5, b"ab", ["a"], ("a",), {"a": 1}, {"a"}, object(), Awkward(), str)
NO_INDEXES = (None, True, False, -1, -6, 6, 7, 10 ** 30, 1.0, 0.0, "0", b"0", (), (0,), [0], {}, Awkward(), int)


class TextsTest(unittest.TestCase):
    def test_all_characters_are_characters(self):
        self.assertEqual(len(CHARACTERS), 68)
        plain = Folding()
        for character in CHARACTERS:
            self.assertEqual(plain(character), character)
            self.assertIn(character, plain)
            self.assertEqual(Folding((("lead", character),)).steps(), (("lead", character),))

    def test_other_characters_are_none(self):
        plain = Folding()
        others = [chr(code) for code in range(256) if chr(code) not in CHARACTERS]
        for character in others + ["\u0131", "\u212a", "\uff41", "\U0001d41a", "\ud800", "\u0660"]:
            for text in (character, "ab" + character, character + "ab"):
                with self.assertRaises(NoText):
                    plain(text)
                self.assertNotIn(text, plain)
            with self.assertRaises(NoStep):
                Folding((("lead", character),))
            with self.assertRaises(NoStep):
                Folding((("swap", "a", character),))
            with self.assertRaises(NoStep):
                Folding((("swap", character, "a"),))
            with self.assertRaises(NoStep):
                Folding((("once", character),))
            with self.assertRaises(NoStep):
                Folding((("drop", "ab" + character),))

    def test_lengths(self):
        for folding in (Folding(), Folding((("cut", 1),)), Folding((("drop", "a"),))):
            for length in (0, 1, 59, 60):
                self.assertEqual(folding("a" * length), made(folding.steps(), "a" * length))
            for length in (61, 62, 1000):
                with self.assertRaises(NoText):
                    folding("a" * length)
                self.assertNotIn("a" * length, folding)
        self.assertIn("a" * 60, Folding())
        self.assertIn("", Folding())

    def test_no_strings(self):
        for folding in (Folding(), Folding(SIX)):
            for value in NO_STRINGS:
                with self.assertRaises(NoText):
                    folding(value)
                self.assertNotIn(value, folding)

    def test_no_text_has_one_string(self):
        with self.assertRaises(NoText) as caught:
            Folding()(None)
        self.assertEqual(len(caught.exception.args), 1)
        self.assertIsInstance(caught.exception.args[0], str)


class StepsTest(unittest.TestCase):
    def test_lower(self):
        small = Folding((("lower",),))
        self.assertEqual(small("AbZ z9-._/' "), "abz z9-._/' ")
        self.assertEqual(small(CHARACTERS[26:52]), CHARACTERS[:26])

    def test_swap(self):
        self.assertEqual(Folding((("swap", "a", "b"),))("abAca"), "bbAcb")
        self.assertEqual(Folding((("swap", "a", "a"),))("abAca"), "abAca")
        self.assertEqual(Folding((("swap", "a", "b"), ("swap", "b", "a")))("abc"), "aac")
        self.assertEqual(Folding((("swap", " ", "'"),))(" a "), "'a'")

    def test_drop(self):
        self.assertEqual(Folding((("drop", "a"),))("abAcaa"), "bAc")
        self.assertEqual(Folding((("drop", "0123456789"),))("9a0b12"), "ab")
        self.assertEqual(Folding((("drop", "-."),))("-.-"), "")

    def test_lead(self):
        lead = Folding((("lead", "0"),))
        self.assertEqual([lead(text) for text in ("0010", "000", "", "1000", " 00")], ["10", "", "", "1000", " 00"])

    def test_once(self):
        once = Folding((("once", "a"),))
        self.assertEqual(once("aabaaaAaabb"), "abaAabb")
        self.assertEqual([once(text) for text in ("", "a", "aa", "bb")], ["", "a", "a", "bb"])

    def test_cut(self):
        self.assertEqual(Folding((("cut", 1),))("abc"), "a")
        self.assertEqual(Folding((("cut", 9),))("abcdefghij"), "abcdefghi")
        self.assertEqual(Folding((("cut", 9),))("abc"), "abc")

    def test_order(self):
        self.assertEqual(Folding((("cut", 2), ("drop", "a")))("abc"), "b")
        self.assertEqual(Folding((("drop", "a"), ("cut", 2)))("abc"), "bc")
        self.assertEqual(Folding((("drop", "-"), ("once", "a")))("a-a"), "a")
        self.assertEqual(Folding((("once", "a"), ("drop", "-")))("a-a"), "aa")
        self.assertEqual(Folding((("lead", "0"), ("lead", "-"), ("lead", "0")))("0-0-"), "-")

    def test_of_the_document(self):
        plain = Folding((("lower",), ("drop", " -"), ("lead", "0")))
        self.assertEqual(plain("00 Ab-7"), "ab7")
        self.assertEqual(plain("ab7"), "ab7")
        self.assertIs("ab7" in plain, True)
        self.assertIs("Ab" in plain, False)

    def test_many(self):
        chance = random.Random(1)
        for _ in range(3000):
            steps = tuple(random_step(chance) for _ in range(chance.randint(0, 6)))
            text = "".join(chance.choice("aAbB0- ") for _ in range(chance.randint(0, 60)))
            folding = Folding(steps)
            self.assertEqual(folding(text), made(steps, text))
            self.assertIs(text in folding, made(steps, text) == text)


def random_step(chance):
    name = chance.choice(("lower", "swap", "drop", "lead", "once", "cut"))
    if name == "lower":
        return (name,)
    if name == "swap":
        return (name, chance.choice("aAbB0- "), chance.choice("aAbB0- "))
    if name == "drop":
        return (name, "".join(chance.sample("aAbB0- ", chance.randint(1, 3))))
    if name == "cut":
        return (name, chance.randint(1, 9))
    return (name, chance.choice("aAbB0- "))


STEPS = (
    ("lower",), ("swap", "a", "a"), ("swap", " ", "Z"), ("drop", "a"), ("drop", "abcdefghij"), ("drop", "'/_.- 09zZ"),
    ("lead", "0"), ("lead", " "), ("once", "'"), ("once", "Z"), ("cut", 1), ("cut", 9),
)

NO_STEPS = (
    (), ("lower", "a"), ("lower", None), ("Lower",), ("LOWER",), ("lower ",), ("",), ("upper",), (("lower",),), "lower",
    ["lower"], {"lower"}, {"lower": 1}, None, 0, True, 1.5, b"lower", (b"lower",), (None,), (0,), (["lower"],),
    ("swap",), ("swap", "a"), ("swap", "a", "b", "c"), ("swap", "ab", "c"), ("swap", "a", "bc"), ("swap", "", "a"),
    ("swap", "a", ""), ("swap", "a", 1), ("swap", 1, "a"), ("swap", "a", None), ("swap", ("a",), "b"), ["swap", "a", "b"],
    ("swap", "%", "a"), ("swap", "a", "\n"),
    ("drop",), ("drop", ""), ("drop", "aa"), ("drop", "aba"), ("drop", "abcdefghijk"), ("drop", "a%"), ("drop", "a\n"),
    ("drop", "a", "b"), ("drop", ("a",)), ("drop", ["a"]), ("drop", {"a"}), ("drop", None), ("drop", 1), ("drop", b"a"),
    ("lead",), ("lead", ""), ("lead", "ab"), ("lead", "0", "0"), ("lead", 0), ("lead", None), ("lead", ["0"]),
    ("lead", "%"), ("lead", "\t"), ("lead", True),
    ("once",), ("once", ""), ("once", "aa"), ("once", "a", "a"), ("once", 1), ("once", None), ("once", "\n"), ("once", b"a"),
    ("cut",), ("cut", 0), ("cut", 10), ("cut", -1), ("cut", 1.0), ("cut", "1"), ("cut", True), ("cut", False),
    ("cut", None), ("cut", 1, 1), ("cut", (1,)), ("cut", 10 ** 30), ["cut", 1], ("cut", Awkward()), ("drop", Awkward()),
    ("lead", Awkward()), ("swap", Awkward(), "a"), ("swap", "a", Awkward()), (Awkward(),), (Awkward(), "a"), Awkward(),
)


class BuildingTest(unittest.TestCase):
    def told(self, steps):
        with self.assertRaises(NoStep) as caught:
            Folding(steps)
        return caught.exception.index

    def test_steps(self):
        for step in STEPS:
            self.assertEqual(Folding((step,)).steps(), (step,))
            self.assertEqual(Folding(steps=(step,)).steps(), (step,))

    def test_without_steps(self):
        for folding in (Folding(), Folding(()), Folding(steps=())):
            self.assertEqual(folding.steps(), ())
            self.assertEqual(len(folding), 0)
            self.assertEqual(folding("00 Ab-7"), "00 Ab-7")
            self.assertIn("Ab", folding)

    def test_no_steps(self):
        for value in NO_STEPS:
            self.assertEqual(self.told((value,)), 0)
            self.assertEqual(self.told((("lower",), ("cut", 3), value)), 2)
            self.assertEqual(self.told((("lower",), value, value)), 1)

    def test_no_tuples(self):
        for value in (None, True, 0, 6, 1.5, "lower", "", [], [("lower",)], {}, {("lower",)}, b"", Awkward(), tuple):
            index = self.told(value)
            self.assertEqual(index, 0)
            self.assertIs(type(index), int)

    def test_behind_six_others(self):
        self.assertEqual(Folding(SIX).steps(), SIX)
        self.assertEqual(self.told(SIX + (("lower",),)), 6)
        self.assertEqual(self.told(SIX + (None,)), 6)
        self.assertEqual(self.told(SIX * 5), 6)
        self.assertEqual(self.told((("lower",),) * 300), 6)
        self.assertEqual(self.told(SIX[:5] + (None, ("lower",))), 5)
        self.assertEqual(self.told((None,) + SIX), 0)
        self.assertEqual(self.told(SIX[:5] + (None,)), 5)

    def test_arguments_stay(self):
        steps = [list(SIX), ["a", "b"]]
        before = copy.deepcopy(steps)
        for value in (steps, tuple(steps)):
            with self.assertRaises(NoStep):
                Folding(value)
        self.assertEqual(steps, before)


class OperationsTest(unittest.TestCase):
    def setUp(self):
        self.folding = Folding(SIX)
        self.other = Folding((("cut", 2),))

    def tearDown(self):
        self.assertEqual(self.folding.steps(), SIX)
        self.assertEqual(self.other.steps(), (("cut", 2),))
        self.assertEqual(self.folding("00 XXaA"), "xbb")

    def test_index(self):
        for index in range(6):
            self.assertEqual(self.folding[index], SIX[index])
        self.assertEqual(self.other[0], ("cut", 2))

    def test_no_index(self):
        for value in NO_INDEXES:
            for call in (self.folding.__getitem__, self.folding.without):
                with self.assertRaises(NoStep) as caught:
                    call(value)
                self.assertIs(caught.exception.index, value)
        for folding, index in ((self.other, 1), (self.other, -1), (Folding(), 0), (Folding(), -1)):
            with self.assertRaises(NoStep) as caught:
                folding[index]
            self.assertEqual(caught.exception.index, index)
            with self.assertRaises(NoStep) as caught:
                folding.without(index)
            self.assertEqual(caught.exception.index, index)

    def test_length(self):
        self.assertEqual([len(Folding(SIX[:count])) for count in range(7)], [0, 1, 2, 3, 4, 5, 6])

    def test_steps(self):
        self.assertIs(type(self.folding.steps()), tuple)
        self.assertEqual(self.folding.steps(), SIX)

    def test_sum(self):
        for count in range(7):
            total = Folding(SIX[:count]) + Folding(SIX[count:])
            self.assertIsInstance(total, Folding)
            self.assertEqual(total.steps(), SIX)
        self.assertEqual((self.other + Folding()).steps(), self.other.steps())
        self.assertEqual((Folding() + Folding()).steps(), ())
        self.assertEqual((self.other + Folding((("lower",),)))("ABC"), "ab")

    def test_sum_of_too_many(self):
        for first, second in ((self.folding, self.other), (self.other, self.folding), (self.folding, self.folding)):
            with self.assertRaises(NoStep) as caught:
                first + second
            self.assertEqual(caught.exception.index, 6)

    def test_without(self):
        for index in range(6):
            self.assertEqual(self.folding.without(index).steps(), SIX[:index] + SIX[index + 1:])
            self.assertEqual(self.folding.without(index=index).steps(), SIX[:index] + SIX[index + 1:])
        self.assertIsInstance(self.folding.without(0), Folding)
        self.assertEqual(self.other.without(0), Folding())

    def test_text_by_name(self):
        self.assertEqual(self.other(text="abc"), "ab")

    def test_equal(self):
        self.assertTrue(self.folding == Folding(SIX))
        self.assertFalse(self.folding != Folding(SIX))
        self.assertTrue(Folding() == Folding(()))
        for other in (self.other, Folding(), Folding(SIX[::-1]), Folding(SIX[:5]), Folding(SIX[1:])):
            self.assertFalse(self.folding == other)
            self.assertTrue(self.folding != other)
        # These two make the same of every text, but by other steps.
        self.assertFalse(Folding((("swap", "a", "a"),)) == Folding())
        self.assertFalse(Folding((("drop", "ab"),)) == Folding((("drop", "ba"),)))

    def test_equal_to_nothing_else(self):
        for value in (None, 0, 6, True, "lower", SIX, list(SIX), [], (), {}, 1.5, b"", object(), Folding):
            self.assertIs(self.folding == value, False)
            self.assertIs(self.folding != value, True)
            self.assertIs(Folding() == value, False)
            self.assertIs(value == Folding(), False)

    def test_contains(self):
        self.assertIs("ab" in self.other, True)
        self.assertIs("abc" in self.other, False)
        for value in NO_STRINGS + ("%", "a\n", "a" * 61):
            self.assertIs(value in self.other, False)
            self.assertIs(value in Folding(), False)
            self.assertIs(value not in Folding(), True)

    def test_errors_change_nothing(self):
        for value in NO_STRINGS:
            with self.assertRaises(NoText):
                self.folding(value)
        for value in NO_INDEXES:
            with self.assertRaises(NoStep):
                self.folding.without(value)
        with self.assertRaises(NoStep):
            self.folding + self.other


if __name__ == "__main__":
    unittest.main()
