"""Promises 18 and 19."""

import random
import unittest

from plaindoors.doors import Doors
from plaindoors.errors import NoLine, NoPart, NoStep
from plaindoors.foldings import Folding
from plaindoors.texts import doors_text, folding_text, read_doors, read_folding
from tests.plain import CHARACTERS
from tests.test_errors import Awkward

WRITTEN = (
    ((), "plain"),
    ((("lower",),), "lower"),
    ((("swap", "a", "b"),), "swap a b"),
    ((("swap", "a", "a"),), "swap a a"),
    ((("swap", " ", "-"),), "swap ~ -"),
    ((("swap", "-", " "),), "swap - ~"),
    ((("swap", " ", " "),), "swap ~ ~"),
    ((("drop", "x"),), "drop x"),
    ((("drop", " -"),), "drop ~-"),
    ((("drop", "a b"),), "drop a~b"),
    ((("drop", "b "),), "drop b~"),
    ((("drop", "zyx._/'09Z"),), "drop zyx._/'09Z"),
    ((("lead", "0"),), "lead 0"),
    ((("lead", " "),), "lead ~"),
    ((("once", "'"),), "once '"),
    ((("once", " "),), "once ~"),
    ((("cut", 1),), "cut 1"),
    ((("cut", 9),), "cut 9"),
    ((("lower",), ("drop", " -"), ("lead", "0")), "lower; drop ~-; lead 0"),
    ((("lower",),) * 6, "lower; lower; lower; lower; lower; lower"),
    (
        (("cut", 3), ("once", "x"), ("lead", " "), ("drop", ". "), ("swap", "A", "z"), ("lower",)),
        "cut 3; once x; lead ~; drop .~; swap A z; lower",
    ),
)

NO_PARTS = (
    "", " ", "Lower", "LOWER", "lower ", " lower", "lower a", "lower  ", "lower;", ";lower", "lower;lower", "lower ;",
    "low", "lowerlower", "plain", "plain ", "Plain", "upper", "~", "lower~", "lower\n", "\tlower", "lower\tx",
    "swap", "swap ", "swap a", "swap a ", "swap  a b", "swap a  b", "swap a b ", "swap a b c", "swap ab c", "swap a bc",
    "swap   a", "swap a,b", "swap a;b", "swap a ;", "swap ~", "swap ~~ a", "swap\ta\tb", "swapab", "swap a \n",
    "drop", "drop ", "drop  ", "drop   a", "drop a ", "drop a b", "drop aa", "drop ~~", "drop ~a~", "drop abcdefghijk",
    "drop a;", "drop ;", "drop a,b", "drop a\n", "Drop a", "dropa", "drop\na",
    "lead", "lead ", "lead  ", "lead ab", "lead ~~", "lead 0 0", "lead ;", "lead *", "lead \t", "leads 0",
    "once", "once ", "once aa", "once a a", "once #", "once ~a", "only a",
    "cut", "cut ", "cut 0", "cut 10", "cut 01", "cut -1", "cut +1", "cut a", "cut ~", "cut 1 ", "cut  1", "cut 1 1",
    "cut 1.0", "cut 1~", "cut ~1", "cut (1)", "cut 1_", "cut1", "cut one", "cut 1\n", "cut \n1",
)
NO_STRINGS = (None, True, False, 0, 1, 1.5, b"lower", b"plain", [], ["lower"], (), ("lower",), {}, {"lower"}, object(),
              Awkward(), str)

SHORT = Doors(Folding(), Folding((("lower",),)), Folding((("cut", 2), ("drop", " "))), Folding())
SHORT_LINES = ["put: plain", "find: lower", "strike: cut 2; drop ~", "wish: plain"]

NO_LINES = (
    (
        "", "put", "put:", "put: ", "put:plain", "put:  plain", "put: plain ", " put: plain", "Put: plain", "plain",
        "puts: plain", "put : plain", "put: lower; plain", "put: lower;", "put: lower;lower", "put: swap a", "put: cut 0",
        "put: lower; lower; lower; lower; lower; lower; lower", "put: put: plain", "find: plain", "put; plain", "put: a",
        "put:\tplain", "put: plain\t",
    ),
    ("", "find", "find:", "find: ", "find:lower", "find: lower ", "put: plain", "strike: plain", "Find: plain", "find: x"),
    ("", "strike:", "strike: cut", "strike", "find: plain", "wish: plain", "strike: plain;", "strike: drop  "),
    ("", "wish:", "wish: ", "wish", "Wish: plain", "find: plain", "wish: lower; ", "wish: lower lower", "wish: once ab"),
)


def random_step(chance):
    name = chance.choice(("lower", "swap", "drop", "lead", "once", "cut"))
    if name == "lower":
        return (name,)
    if name == "swap":
        return (name, chance.choice(CHARACTERS), chance.choice(CHARACTERS + " " * 9))
    if name == "drop":
        return (name, "".join(chance.sample(CHARACTERS, chance.randint(1, 10))))
    if name == "cut":
        return (name, chance.randint(1, 9))
    return (name, chance.choice(CHARACTERS + " " * 9))


def random_folding(chance):
    return Folding(tuple(random_step(chance) for _ in range(chance.randint(0, 6))))


def spoilt(chance, text, characters):
    """A text with a character left out, put in or made another one."""
    at = chance.randrange(len(text) + 1)
    way = chance.randint(0, 2)
    between = "" if way == 0 else chance.choice(characters)
    return text[:at] + between + text[at + (way != 1):]


class FoldingTextTest(unittest.TestCase):
    def test_written(self):
        for steps, text in WRITTEN:
            folding = Folding(steps)
            self.assertEqual(folding_text(folding), text)
            self.assertEqual(folding_text(folding=folding), text)
            self.assertEqual(folding.steps(), steps)

    def test_read(self):
        for steps, text in WRITTEN:
            told = read_folding(text)
            self.assertIsInstance(told, Folding)
            self.assertEqual(told.steps(), steps)
            self.assertEqual(read_folding(text=text).steps(), steps)
            self.assertEqual([type(value) for step in told.steps() for value in step],
                             [type(value) for step in steps for value in step])

    def test_all_characters(self):
        for character in CHARACTERS:
            sign = "~" if character == " " else character
            for steps, text in (
                ((("swap", character, "q"),), f"swap {sign} q"),
                ((("swap", "q", character),), f"swap q {sign}"),
                ((("drop", character),), f"drop {sign}"),
                ((("lead", character),), f"lead {sign}"),
                ((("once", character),), f"once {sign}"),
            ):
                self.assertEqual(folding_text(Folding(steps)), text)
                self.assertEqual(read_folding(text).steps(), steps)

    def test_read_back(self):
        chance = random.Random(40)
        for _ in range(2000):
            folding = random_folding(chance)
            text = folding_text(folding)
            self.assertIs(type(text), str)
            self.assertTrue(read_folding(text) == folding)

    def told(self, text):
        with self.assertRaises(NoPart) as caught:
            read_folding(text)
        self.assertIs(type(caught.exception.part), int)
        return caught.exception.part

    def test_no_part(self):
        for part in NO_PARTS:
            if part != "plain":
                self.assertEqual(self.told(part), 0, part)
            self.assertEqual(self.told(part + "; lower"), 0, part)
            self.assertEqual(self.told("lower; " + part), 1, part)
            self.assertEqual(self.told("lower; cut 3; " + part + "; drop x; also wrong"), 2, part)

    def test_no_string(self):
        for value in NO_STRINGS:
            self.assertEqual(self.told(value), 0)

    def test_more_than_six(self):
        for count in (7, 8, 50):
            with self.assertRaises(NoStep) as caught:
                read_folding("; ".join(["cut 1"] * count))
            self.assertEqual(caught.exception.index, 6)
        # A part that writes no step comes first, wherever it stands.
        for at in (0, 5, 6, 7, 9):
            parts = ["lower"] * 10
            parts[at] = "lower "
            self.assertEqual(self.told("; ".join(parts)), at)

    def test_spoilt(self):
        # What is read of a spoilt text is what is written by it; else the first bad part is told.
        chance = random.Random(41)
        wrong = 0
        for _ in range(4000):
            text = spoilt(chance, folding_text(random_folding(chance)), "ab ~;0;19; \nplower")
            try:
                self.assertEqual(folding_text(read_folding(text)), text)
            except NoPart as error:
                wrong += 1
                parts = text.split("; ")
                self.assertEqual(error.part, first_wrong(parts), text)
            except NoStep as error:
                self.assertEqual(error.index, 6)
                self.assertIsNone(first_wrong(text.split("; ")))
        self.assertGreater(wrong, 1000)


def first_wrong(parts):
    """The index of the first part that is not written for any step."""
    for at, part in enumerate(parts):
        if not is_written(part):
            return at
    return None


def is_written(part):
    """Whether a part writes a step, by a look at its words."""
    signs = CHARACTERS.replace(" ", "~")
    if part == "lower":
        return True
    if part[:5] == "swap ":
        return len(part) == 8 and part[6] == " " and part[5] in signs and part[7] in signs
    if part[:5] == "drop ":
        return 1 <= len(part) - 5 <= 10 and set(part[5:]) <= set(signs) and len(set(part[5:])) == len(part) - 5
    if part[:5] in ("lead ", "once "):
        return len(part) == 6 and part[5] in signs
    return part[:4] == "cut " and len(part) == 5 and part[4] in "123456789"


class DoorsTextTest(unittest.TestCase):
    def test_written(self):
        text = "\n".join(SHORT_LINES)
        self.assertEqual(doors_text(SHORT), text)
        self.assertEqual(doors_text(doors=SHORT), text)
        self.assertTrue(read_doors(text) == SHORT)
        self.assertTrue(read_doors(text=text) == SHORT)
        self.assertIsInstance(read_doors(text), Doors)

    def test_read_back(self):
        chance = random.Random(42)
        for _ in range(500):
            doors = Doors(*[random_folding(chance) for _ in range(4)])
            text = doors_text(doors)
            self.assertEqual(text.count("\n"), 3)
            told = read_doors(text)
            self.assertTrue(told == doors)
            self.assertTrue(told.put() == doors.put() and told.wish() == doors.wish())

    def told(self, text):
        with self.assertRaises(NoLine) as caught:
            read_doors(text)
        self.assertIs(type(caught.exception.line), int)
        return caught.exception.line

    def test_no_line(self):
        for at, wrong in enumerate(NO_LINES):
            for line in wrong:
                lines = SHORT_LINES[:at] + [line] + SHORT_LINES[at + 1:]
                self.assertEqual(self.told("\n".join(lines)), at, line)
                self.assertEqual(self.told("\n".join(lines[:at + 1])), at, line)
                self.assertEqual(self.told("\n".join(lines + ["more"])), at, line)
                self.assertEqual(self.told("\n".join(SHORT_LINES[:at] + [line] * 6)), at, line)

    def test_too_many(self):
        for more in ("", "wish: plain", "put: plain", "more", "\n", "\n\n"):
            self.assertEqual(self.told("\n".join(SHORT_LINES + [more])), 4)

    def test_too_few(self):
        for count in (1, 2, 3):
            self.assertEqual(self.told("\n".join(SHORT_LINES[:count])), count)
            # With a newline behind them there is one line more, and it is wrong.
            self.assertEqual(self.told("\n".join(SHORT_LINES[:count]) + "\n"), count)
        self.assertEqual(self.told(""), 0)
        self.assertEqual(self.told("\n"), 0)
        self.assertEqual(self.told("\n" + "\n".join(SHORT_LINES)), 0)

    def test_other_orders(self):
        self.assertEqual(self.told("\n".join(SHORT_LINES[::-1])), 0)
        self.assertEqual(self.told("\n".join([SHORT_LINES[0], SHORT_LINES[2], SHORT_LINES[1], SHORT_LINES[3]])), 1)
        self.assertEqual(self.told("\n".join([SHORT_LINES[0]] + SHORT_LINES)), 1)
        self.assertEqual(self.told("\n".join(SHORT_LINES[:2] + SHORT_LINES[3:])), 2)
        self.assertEqual(self.told("\n".join(SHORT_LINES[:3] + SHORT_LINES[2:])), 3)

    def test_no_string(self):
        for value in NO_STRINGS + (SHORT_LINES, tuple(SHORT_LINES), "\n".join(SHORT_LINES).encode()):
            self.assertEqual(self.told(value), 0)

    def test_spoilt(self):
        chance = random.Random(43)
        wrong = 0
        for _ in range(3000):
            doors = Doors(*[random_folding(chance) for _ in range(4)])
            text = spoilt(chance, doors_text(doors), "ab ~;:0 \n\n1plower")
            lines = text.split("\n")
            try:
                self.assertEqual(doors_text(read_doors(text)), text)
            except NoLine as error:
                wrong += 1
                self.assertEqual(error.line, first_wrong_line(lines), text)
        self.assertGreater(wrong, 1000)


def first_wrong_line(lines):
    """The index of the first line that is wrong, too many or missing, by a look at its parts."""
    for at, line in enumerate(lines):
        beginning = ("put: ", "find: ", "strike: ", "wish: ")[at] if at < 4 else None
        if beginning is None or line[:len(beginning)] != beginning:
            return at
        parts = line[len(beginning):].split("; ")
        if parts != ["plain"] and (first_wrong(parts) is not None or len(parts) > 6):
            return at
    return len(lines) if len(lines) < 4 else None


if __name__ == "__main__":
    unittest.main()
