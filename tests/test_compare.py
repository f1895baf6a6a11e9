"""Promises 8 to 11, held against a plain look at all short texts."""

import random
import unittest

from plaindoors.compare import coarser, exchanged, needless, parting, unlike, unsettled
from plaindoors.foldings import Folding
from tests.plain import least_pair, made, texts

# The steps name a, b and A only. Both cases of a letter that no step names are looked at,
# too, and a character that is no letter.
LOOKED_AT = texts("aAbBcC-", 4)
LONGEST = 4
PLAIN = Folding()
LOWER = Folding((("lower",),))


def random_step(chance, named="abA"):
    name = chance.choice(("lower", "swap", "drop", "lead", "once", "cut"))
    if name == "lower":
        return (name,)
    if name == "swap":
        return (name, chance.choice(named), chance.choice(named))
    if name == "drop":
        return (name, "".join(chance.sample(named, chance.randint(1, 2))))
    if name == "cut":
        return (name, chance.randint(1, 3))
    return (name, chance.choice(named))


def random_folding(chance, most):
    return Folding(tuple(random_step(chance) for _ in range(chance.randint(0, most))))


def changed(chance, folding):
    """Nearly the same folding, so that the differences are not all found in the first letter."""
    steps = list(folding.steps())
    way = chance.randint(0, 3)
    if way == 0 and steps:
        del steps[chance.randrange(len(steps))]
    elif way == 1 and len(steps) > 1:
        first, second = chance.sample(range(len(steps)), 2)
        steps[first], steps[second] = steps[second], steps[first]
    elif way == 2 and len(steps) < 6:
        steps.insert(chance.randint(0, len(steps)), random_step(chance))
    return Folding(tuple(steps))


class PlainLook(unittest.TestCase):
    def check_pair(self, told, four):
        """Holds what parting tells of four foldings against all the short texts."""
        rows = [folding.steps() for folding in four]
        least = least_pair(*rows, LOOKED_AT)
        if told is None:
            self.assertIsNone(least, rows)
            return
        self.assertIs(type(told), tuple)
        first, second = told
        self.assertTrue(type(first) is str and type(second) is str)
        self.assertLessEqual(max(len(first), len(second)), 60)
        self.assertEqual(made(rows[0], first), made(rows[1], second), rows)
        self.assertNotEqual(made(rows[2], first), made(rows[3], second), rows)
        if least is not None:
            self.assertLessEqual(len(first) + len(second), least, rows)
        if max(len(first), len(second)) <= LONGEST:
            self.assertEqual(len(first) + len(second), least, rows)

    def check_text(self, told, steps, others):
        """Holds a text of which two rows of steps make different ones against all the short texts."""
        apart = [text for text in LOOKED_AT if made(steps, text) != made(others, text)]
        if told is None:
            self.assertEqual(apart, [], (steps, others))
            return
        self.assertIs(type(told), str)
        self.assertNotEqual(made(steps, told), made(others, told))
        if apart or len(told) <= LONGEST:
            self.assertEqual(len(told), len(apart[0]), (steps, others))


class PartingTest(PlainLook):
    def test_any_four(self):
        chance = random.Random(2)
        for _ in range(150):
            most = chance.randint(0, 5)
            four = [random_folding(chance, most) for _ in range(4)]
            self.check_pair(parting(*four), four)

    def test_four_alike(self):
        chance = random.Random(3)
        for _ in range(350):
            most = chance.randint(1, 4)
            first = random_folding(chance, most)
            third = changed(chance, first) if chance.random() < 0.5 else random_folding(chance, most)
            if chance.random() < 0.4 and len(first) + len(third) <= 6:
                third = first + third
            four = [first, changed(chance, first), third, changed(chance, third)]
            self.check_pair(parting(*four), four)

    def test_by_name(self):
        told = parting(fourth=LOWER, third=PLAIN, second=PLAIN, first=PLAIN)
        self.assertEqual(told, parting(PLAIN, PLAIN, PLAIN, LOWER))
        self.assertEqual(told[0], told[1])
        self.assertTrue(told[0].isupper())

    def test_nothing_parted(self):
        for folding in (PLAIN, LOWER, Folding((("cut", 9),))):
            self.assertIsNone(parting(folding, folding, folding, folding))
            self.assertIsNone(parting(PLAIN, PLAIN, folding, folding))
            self.assertIsNone(parting(PLAIN, folding, PLAIN, folding))

    def test_two_texts(self):
        told = parting(LOWER, LOWER, PLAIN, PLAIN)
        self.assertEqual(len(told[0]), 1)
        self.assertEqual(sorted(told), sorted({told[0].upper(), told[0].lower()}))
        dropping = Folding((("drop", "a"),))
        self.assertIn(parting(dropping, dropping, PLAIN, PLAIN), (("a", ""), ("", "a")))
        self.assertEqual(parting(dropping, PLAIN, PLAIN, PLAIN), ("a", ""))
        self.assertEqual(parting(PLAIN, dropping, PLAIN, PLAIN), ("", "a"))

    def test_texts_of_different_length(self):
        # Nine letters fill the cut of the third, and a tenth is missing there.
        told = parting(Folding((("drop", "a"),)), PLAIN, Folding((("cut", 9), ("drop", "a"))), PLAIN)
        self.assertEqual((len(told[0]), len(told[1])), (10, 1))
        told = parting(PLAIN, Folding((("drop", "a"),)), PLAIN, Folding((("cut", 9), ("drop", "a"))))
        self.assertEqual((len(told[0]), len(told[1])), (1, 10))

    def test_foldings_stay(self):
        four = [Folding((("lower",),)), Folding((("cut", 2),)), Folding((("once", "a"),)), Folding()]
        before = [folding.steps() for folding in four]
        first = parting(*four)
        self.assertEqual([folding.steps() for folding in four], before)
        self.assertEqual(parting(*four), first)


class UnlikeTest(PlainLook):
    def test_many(self):
        chance = random.Random(4)
        for at in range(350):
            folding = random_folding(chance, 6)
            other = random_folding(chance, 6) if at % 5 == 0 else changed(chance, folding)
            self.check_text(unlike(folding, other), folding.steps(), other.steps())

    def test_edges(self):
        self.assertIsNone(unlike(PLAIN, Folding(())))
        self.assertIsNone(unlike(folding=PLAIN, other=Folding((("swap", "a", "a"),))))
        self.assertIsNone(unlike(Folding((("drop", "ab"),)), Folding((("drop", "ba"),))))
        self.assertIsNone(unlike(Folding((("cut", 9), ("cut", 3))), Folding((("cut", 3),))))
        self.assertEqual(len(unlike(Folding((("cut", 9),)), PLAIN)), 10)
        self.assertEqual(len(unlike(Folding((("cut", 9),)), Folding((("cut", 8),)))), 9)
        self.assertEqual(unlike(Folding((("lead", "0"),)), PLAIN), "0")
        self.assertEqual(unlike(Folding((("once", "'"),)), PLAIN), "''")
        self.assertEqual(unlike(Folding((("drop", " "),)), PLAIN), " ")
        self.assertEqual(unlike(Folding((("swap", "Q", "q"),)), PLAIN), "Q")
        self.assertNotEqual(unlike(Folding((("swap", "Q", "q"),)), LOWER), "Q")

    def test_all_capitals_but_one_swapped(self):
        # What is left to tell them apart is one character that no step names.
        swaps = [Folding(tuple(("swap", letter.upper(), letter) for letter in row)) for row in ("abcdef", "ghijkl")]
        told = unlike(swaps[0], LOWER)
        self.assertIn(told, list("GHIJKLMNOPQRSTUVWXYZ"))
        self.assertIsNone(parting(PLAIN, swaps[0], LOWER, LOWER))
        self.assertEqual(len(unlike(swaps[0], swaps[1])), 1)


class UnsettledTest(PlainLook):
    def test_many(self):
        chance = random.Random(5)
        for _ in range(350):
            folding = random_folding(chance, 6)
            self.check_text(unsettled(folding), folding.steps(), folding.steps() * 2)

    def test_edges(self):
        for step in (("lower",), ("drop", "ab"), ("lead", "0"), ("once", "0"), ("cut", 1), ("cut", 9), ("swap", "a", "b")):
            self.assertIsNone(unsettled(Folding((step,))))
        self.assertIsNone(unsettled(folding=PLAIN))
        self.assertEqual(unsettled(Folding((("swap", "a", "b"), ("swap", "c", "a")))), "c")
        self.assertEqual(unsettled(Folding((("lead", "0"), ("drop", "-")))), "-0")
        self.assertEqual(unsettled(Folding((("once", "0"), ("drop", "-")))), "0-0")
        told = unsettled(Folding((("swap", "a", "b"), ("cut", 9), ("drop", "-"), ("swap", "b", "a"))))
        self.assertIsNone(told)


class ExchangedTest(PlainLook):
    def test_many(self):
        chance = random.Random(6)
        for at in range(350):
            folding = random_folding(chance, 3)
            other = changed(chance, folding) if at % 3 == 0 else random_folding(chance, 3)
            both = (folding.steps() + other.steps(), other.steps() + folding.steps())
            self.check_text(exchanged(folding, other), *both)

    def test_more_than_six_steps(self):
        chance = random.Random(7)
        for _ in range(100):
            folding = random_folding(chance, 6)
            other = random_folding(chance, 6)
            both = (folding.steps() + other.steps(), other.steps() + folding.steps())
            self.check_text(exchanged(folding, other), *both)

    def test_edges(self):
        self.assertIsNone(exchanged(LOWER, PLAIN))
        self.assertIsNone(exchanged(LOWER, LOWER))
        self.assertIsNone(exchanged(folding=LOWER, other=Folding((("cut", 3),))))
        self.assertIsNone(exchanged(Folding((("cut", 9),)), Folding((("cut", 1),))))
        told = exchanged(Folding((("cut", 9),)), Folding((("drop", "a"),)))
        self.assertEqual(len(told), 10)
        self.assertEqual(exchanged(LOWER, Folding((("drop", "a"),))), "A")
        self.assertIn(exchanged(LOWER, Folding((("swap", "b", "A"),))), ("b", "B"))
        self.assertEqual(exchanged(Folding((("lead", "0"),)), Folding((("drop", "-"),))), "-0")


class CoarserTest(PlainLook):
    def test_many(self):
        chance = random.Random(8)
        for at in range(300):
            folding = random_folding(chance, 4)
            other = random_folding(chance, 4) if at % 3 == 0 else changed(chance, folding)
            if at % 3 == 1 and len(folding) + len(other) <= 6:
                folding = other + folding
            self.check_pair(coarser(folding, other), [other, other, folding, folding])

    def test_edges(self):
        self.assertIsNone(coarser(LOWER, PLAIN))
        self.assertIsNone(coarser(folding=Folding((("cut", 3),)), other=Folding((("cut", 9),))))
        self.assertEqual(sum(map(len, coarser(PLAIN, LOWER))), 2)
        told = coarser(Folding((("cut", 9),)), Folding((("cut", 3),)))
        self.assertEqual(sorted(map(len, told)), [3, 4])
        told = coarser(Folding((("cut", 9), ("drop", "a"))), Folding((("drop", "a"),)))
        self.assertEqual(sorted(map(len, told)), [1, 10])


class NeedlessTest(PlainLook):
    def test_many(self):
        chance = random.Random(9)
        for _ in range(150):
            folding = random_folding(chance, 6)
            told = needless(folding)
            self.assertIs(type(told), list)
            for index in range(len(folding)):
                steps = folding.steps()
                without = steps[:index] + steps[index + 1:]
                apart = any(made(steps, text) != made(without, text) for text in LOOKED_AT)
                if apart:
                    self.assertNotIn(index, told, steps)
                elif index not in told:
                    # No short text shows that the step is needed: the one that does is longer.
                    text = unlike(folding, folding.without(index))
                    self.assertGreater(len(text), LONGEST)
                    self.assertNotEqual(made(steps, text), made(without, text))
            self.assertEqual(told, sorted(told))

    def test_edges(self):
        self.assertEqual(needless(PLAIN), [])
        self.assertEqual(needless(LOWER), [])
        self.assertEqual(needless(folding=Folding((("swap", "a", "a"),))), [0])
        self.assertEqual(needless(Folding((("lower",),) * 6)), [0, 1, 2, 3, 4, 5])
        self.assertEqual(needless(Folding((("cut", 9), ("cut", 8), ("cut", 9)))), [0, 2])
        self.assertEqual(needless(Folding((("cut", 9), ("drop", "a"), ("cut", 8), ("drop", "a")))), [3])
        self.assertEqual(needless(Folding((("drop", "a"), ("once", "a"), ("lead", "a"), ("swap", "a", "b")))), [1, 2, 3])

    def test_new_lists(self):
        folding = Folding((("lower",), ("lower",)))
        first = needless(folding)
        first.append("more")
        self.assertEqual(needless(folding), [0, 1])
        self.assertIsNot(needless(folding), needless(folding))
        self.assertEqual(folding.steps(), (("lower",), ("lower",)))


if __name__ == "__main__":
    unittest.main()
