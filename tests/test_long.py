"""Promises 8 to 10 for foldings that differ in long texts only, and for those that take longest."""

import random
import unittest

from plaindoors.compare import coarser, exchanged, needless, parting, unlike, unsettled
from plaindoors.foldings import Folding
from tests.plain import CHARACTERS, least_by_states, made

NAMED = "abcdAB"
# All that the steps name here, in both cases, another letter and characters that are none.
LOOKED_AT = "abcdefghzABCDEFGHZ-01_"


def random_step(chance, weights):
    name = chance.choices(("lower", "swap", "drop", "lead", "once", "cut"), weights)[0]
    if name == "lower":
        return (name,)
    if name == "swap":
        return (name, chance.choice(NAMED), chance.choice(NAMED))
    if name == "drop":
        return (name, "".join(chance.sample(NAMED, chance.randint(1, 4))))
    if name == "cut":
        return (name, chance.randint(3, 9))
    return (name, chance.choice(NAMED))


def changed(chance, steps, weights):
    steps = list(steps)
    for _ in range(chance.randint(0, 2)):
        way = chance.randint(0, 3)
        if way == 0 and steps:
            steps[chance.randrange(len(steps))] = random_step(chance, weights)
        elif way == 1 and len(steps) > 1:
            first, second = chance.sample(range(len(steps)), 2)
            steps[first], steps[second] = steps[second], steps[first]
        elif way == 2 and steps:
            del steps[chance.randrange(len(steps))]
        elif len(steps) < 6:
            steps.insert(chance.randint(0, len(steps)), random_step(chance, weights))
    return tuple(steps)


def random_rows(chance):
    """Four rows of up to six steps, each much like another one."""
    weights = [chance.randint(0, 3) for _ in range(3)] + [chance.randint(0, 3), chance.randint(0, 6), chance.randint(1, 6)]
    first = tuple(random_step(chance, weights) for _ in range(chance.randint(3, 6)))
    if chance.random() < 0.5:
        third = tuple(random_step(chance, weights) for _ in range(chance.randint(3, 6)))
    else:
        third = changed(chance, first, weights)
    if chance.random() < 0.3:
        third = (first + third)[:6]
    return first, changed(chance, first, weights), third, changed(chance, third, weights)


class LongTest(unittest.TestCase):
    def check(self, told, rows, least):
        """Holds a pair against the four rows and the least length of such a pair."""
        if told is None or least is None:
            self.assertEqual((told, least), (None, None), rows)
            return
        first, second = told
        self.assertEqual(made(rows[0], first), made(rows[1], second), rows)
        self.assertNotEqual(made(rows[2], first), made(rows[3], second), rows)
        self.assertEqual(len(first) + len(second), least, rows)
        self.assertLessEqual(max(len(first), len(second)), 60)

    def told(self, rows):
        return parting(*[Folding(steps) for steps in rows])

    def test_many(self):
        chance = random.Random(10)
        held = 0
        while held < 1200:
            rows = random_rows(chance)
            told = self.told(rows)
            # Most differ in the first letters; tests of the short texts look at these.
            if told is not None and len(told[0]) + len(told[1]) < 5 and chance.random() < 0.9:
                continue
            self.check(told, rows, least_by_states(*rows, LOOKED_AT))
            held += 1

    def test_all_characters(self):
        chance = random.Random(11)
        for _ in range(60):
            rows = random_rows(chance)
            self.check(self.told(rows), rows, least_by_states(*rows, CHARACTERS))

    def test_long_texts(self):
        # Each letter that fills a cut needs another one before it, that does not.
        for rows, least in LONG:
            self.assertEqual(least_by_states(*rows, LOOKED_AT), least)
            self.check(self.told(rows), rows, least)

    def test_of_many_states(self):
        for rows, least in SLOW:
            self.assertEqual(least_by_states(*rows, LOOKED_AT), least)
            self.check(self.told(rows), rows, least)

    def test_one_text(self):
        chance = random.Random(12)
        for _ in range(150):
            first, second, third, fourth = random_rows(chance)
            for told, steps, others in (
                (unlike(Folding(first), Folding(second)), first, second),
                (unsettled(Folding(third)), third, third + third),
                (exchanged(Folding(first), Folding(fourth)), first + fourth, fourth + first),
            ):
                rows = ((), (), steps, others)
                least = least_by_states(*rows, LOOKED_AT)
                pair = None if told is None else (told, told)
                self.check(pair, rows, least)

    def test_coarser(self):
        chance = random.Random(13)
        for _ in range(150):
            first, second, third, _ = random_rows(chance)
            for steps, others in ((first, second), (second, third), ((first + third)[:6], first)):
                rows = (others, others, steps, steps)
                told = coarser(Folding(steps), Folding(others))
                self.check(told, rows, least_by_states(*rows, LOOKED_AT))

    def test_needless(self):
        chance = random.Random(14)
        for _ in range(100):
            steps = random_rows(chance)[2]
            told = []
            for index in range(len(steps)):
                without = steps[:index] + steps[index + 1:]
                if least_by_states((), (), steps, without, LOOKED_AT) is None:
                    told.append(index)
            self.assertEqual(needless(Folding(steps)), told, steps)

    def test_drops_of_ten(self):
        rows = [("drop", CHARACTERS[at:at + 10]) for at in range(0, 60, 10)]
        folding = Folding(tuple(rows))
        self.assertIsNone(unlike(folding, Folding(tuple(rows[::-1]))))
        self.assertEqual(needless(folding), [])
        self.assertIsNone(unsettled(folding))
        self.assertIsNone(coarser(folding, folding))
        other = Folding(tuple(rows[:5]) + (("drop", CHARACTERS[50:59]),))
        self.assertEqual(unlike(folding, other), CHARACTERS[59])
        self.assertIsNone(coarser(folding, other))
        self.assertIn(coarser(other, folding), ((CHARACTERS[59], ""), ("", CHARACTERS[59])))
        cut = Folding((("drop", CHARACTERS[:10]), ("cut", 9), ("drop", CHARACTERS[10:20])))
        self.assertEqual(len(unlike(cut, cut.without(1))), 10)


LONG = (
    (
        (
            (("lead", "a"), ("once", "a"), ("drop", "b"), ("drop", "b"), ("cut", 9)),
            (("lead", "a"), ("once", "a"), ("drop", "b"), ("drop", "b"), ("cut", 9)),
            (("drop", "b"), ("lead", "a"), ("once", "b"), ("once", "a"), ("cut", 3)),
            (("drop", "b"), ("lead", "a"), ("once", "b"), ("once", "a"), ("cut", 3)),
        ),
        33,
    ),
    (
        (
            (("lead", "a"), ("lead", "b"), ("lead", "a"), ("once", "b"), ("lead", "b"), ("drop", "a")),
            (("lead", "a"), ("lead", "b"), ("once", "b"), ("drop", "a"), ("cut", 9), ("swap", "a", "b")),
            (("once", "b"), ("once", "b"), ("drop", "a"), ("lead", "b"), ("cut", 3), ("once", "a")),
            (("lead", "b"), ("once", "b"), ("drop", "a"), ("lead", "b"), ("cut", 3), ("once", "a")),
        ),
        37,
    ),
    (
        (
            (("lead", "f"), ("once", "c"), ("drop", "cdf"), ("drop", "def")),
            (("once", "b"), ("once", "c"), ("once", "c"), ("once", "e")),
            (("drop", "adf"), ("once", "b"), ("drop", "ce"), ("cut", 9), ("once", "b"), ("cut", 3)),
            (("drop", "ade"), ("once", "b"), ("cut", 3), ("cut", 5), ("cut", 5), ("cut", 7)),
        ),
        41,
    ),
    (
        (
            (("once", "c"), ("lead", "b"), ("lead", "a"), ("once", "b"), ("once", "a")),
            (("once", "b"), ("drop", "a"), ("lead", "a")),
            (("drop", "ab"), ("once", "a"), ("once", "c"), ("once", "b"), ("once", "b"), ("cut", 3)),
            (("drop", "a"), ("drop", "ab"), ("cut", 9), ("once", "c"), ("once", "b"), ("cut", 3)),
        ),
        34,
    ),
)

# These take the program longest of all that were tried.
SLOW = (
    (
        (
            (("once", "a"), ("once", "A"), ("drop", "ADace"), ("once", "B"), ("cut", 9), ("drop", "ABadefg")),
            (("once", "a"), ("once", "A"), ("drop", "ADace"), ("once", "B"), ("cut", 9), ("drop", "ABaefg")),
            (("drop", "1Badg"), ("once", "b"), ("cut", 9), ("once", "c"), ("drop", "0ADbcdefg"), ("lead", "-")),
            (("drop", "1Badg"), ("once", "b"), ("cut", 9), ("once", "c"), ("drop", "0ADbcdefg"), ("lead", "-")),
        ),
        10,
    ),
    (
        (
            (("once", "a"), ("once", "A"), ("drop", "Aace"), ("cut", 9), ("once", "B"), ("drop", "ABadef")),
            (("once", "a"), ("once", "A"), ("drop", "Aace"), ("cut", 9), ("once", "B"), ("drop", "ABadef")),
            (("drop", "-Bad"), ("once", "c"), ("once", "b"), ("cut", 9), ("drop", "0ABabcdef"), ("cut", 5)),
            (("drop", "-Bad"), ("once", "c"), ("once", "b"), ("cut", 9), ("drop", "0ABabcdef"), ("cut", 5)),
        ),
        10,
    ),
    (
        (
            (("once", "e"), ("drop", "-01Eaef"), ("once", "c"), ("cut", 8), ("once", "b"), ("drop", "BCDbcd")),
            (("once", "e"), ("drop", "-01Eaef"), ("once", "c"), ("cut", 8), ("once", "b"), ("drop", "BCDbcd")),
            (("drop", "1Cbh"), ("cut", 8), ("drop", "-Aabcef"), ("once", "d"), ("drop", "-01BCDEcde"), ("cut", 5)),
            (("drop", "01Cbh"), ("cut", 8), ("drop", "-Aabcef"), ("once", "d"), ("drop", "01BCDEcdef"), ("cut", 5)),
        ),
        9,
    ),
    (
        (
            (("once", "d"), ("once", "f"), ("lower",), ("once", "d"), ("cut", 9), ("drop", "-1ACEaf")),
            (("once", "d"), ("once", "f"), ("lower",), ("once", "d"), ("cut", 9), ("drop", "-1ACEaf")),
            (("drop", "-1ABade"), ("lower",), ("cut", 9), ("once", "f"), ("cut", 8), ("drop", "BDEbdef")),
            (("drop", "-1ABade"), ("lower",), ("cut", 9), ("once", "f"), ("cut", 8), ("drop", "BDEbdef")),
        ),
        10,
    ),
    (
        (
            (("once", "a"), ("once", "e"), ("drop", "Aace"), ("once", "B"), ("once", "f"), ("drop", "ABCdef")),
            (("once", "a"), ("once", "e"), ("drop", "Aace"), ("once", "B"), ("once", "f"), ("drop", "ABCdef")),
            (("drop", "Aabe"), ("once", "c"), ("drop", "BCacf"), ("once", "d"), ("drop", "ACadef"), ("cut", 9)),
            (("drop", "abe"), ("once", "c"), ("drop", "BCacf"), ("once", "d"), ("drop", "ACdef"), ("cut", 9)),
        ),
        None,
    ),
    (
        (
            (("once", "C"), ("once", "B"), ("drop", "BCb"), ("once", "d"), ("drop", "-Cd"), ("cut", 9)),
            (("cut", 5), ("once", "C"), ("once", "-"), ("drop", "-BCd"), ("once", "f"), ("once", "e")),
            (("drop", "ABCacdef"), ("once", "b"), ("swap", "-", "d"), ("lead", "b"), ("drop", "Abcdf"), ("cut", 7)),
            (("cut", 5), ("once", "d"), ("once", "c"), ("drop", "-BCcdef"), ("once", "a"), ("drop", "-ABCabdef")),
        ),
        None,
    ),
    (
        (
            (("cut", 8), ("once", "A"), ("once", "a"), ("drop", "adef"), ("once", "A"), ("swap", "B", "A")),
            (("cut", 8), ("once", "A"), ("once", "a"), ("drop", "adef"), ("once", "A"), ("swap", "B", "A")),
            (("cut", 8), ("drop", "Aa"), ("once", "d"), ("once", "B"), ("drop", "-BCbcdef"), ("lead", "B")),
            (("cut", 8), ("drop", "Aa"), ("once", "B"), ("once", "d"), ("drop", "-BCbcdef"), ("lead", "B")),
        ),
        None,
    ),
)


if __name__ == "__main__":
    unittest.main()
