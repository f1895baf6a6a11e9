"""Promises 12 to 15."""

import copy
import itertools
import random
import unittest

from plaindoors.doors import Doors, answers, are_right, fewest_folded, first_break, wished
from plaindoors.errors import NoDeed, NoDoor
from plaindoors.foldings import Folding
from tests.plain import CHARACTERS, breaks, least_break, texts, told_by
from tests.test_compare import random_step
from tests.test_errors import Awkward

NAMES = ("put", "find", "strike")
PLAIN = Folding()
LOWER = Folding((("lower",),))
CUT = Folding((("cut", 3),))
LEAD = Folding((("lead", "0"),))
FOUR = (PLAIN, LOWER, CUT, LEAD)

ALL_NAMES = [names for count in range(4) for names in itertools.combinations(NAMES, count)]


def rows(doors):
    """The steps of the four foldings of doors."""
    return tuple(folding.steps() for folding in (doors.put(), doors.find(), doors.strike(), doors.wish()))


def of_rows(steps):
    return Doors(*[Folding(row) for row in steps])


class DoorsTest(unittest.TestCase):
    def test_foldings(self):
        doors = Doors(*FOUR)
        self.assertEqual((doors.put(), doors.find(), doors.strike(), doors.wish()), FOUR)
        doors = Doors(wish=LEAD, strike=CUT, find=LOWER, put=PLAIN)
        self.assertEqual((doors.put(), doors.find(), doors.strike(), doors.wish()), FOUR)

    def test_equal(self):
        doors = Doors(*FOUR)
        self.assertTrue(doors == Doors(*FOUR))
        self.assertFalse(doors != Doors(*FOUR))
        self.assertTrue(doors == Doors(Folding(()), Folding((("lower",),)), CUT, LEAD))
        for at in range(4):
            other = list(FOUR)
            other[at] = Folding((("once", "x"),))
            self.assertFalse(doors == Doors(*other))
            self.assertTrue(doors != Doors(*other))
        for other in itertools.permutations(FOUR):
            self.assertIs(doors == Doors(*other), other == FOUR)

    def test_equal_to_nothing_else(self):
        doors = Doors(PLAIN, PLAIN, PLAIN, PLAIN)
        for value in (None, 0, True, PLAIN, (PLAIN,) * 4, [PLAIN] * 4, "", "put", (), {}, 1.5, b"", object(), Doors):
            self.assertIs(doors == value, False)
            self.assertIs(doors != value, True)
            self.assertIs(value == doors, False)

    def test_folded(self):
        doors = Doors(*FOUR)
        for names in ALL_NAMES:
            expected = [LEAD if name in names else folding for name, folding in zip(NAMES, FOUR)]
            for order in itertools.permutations(names):
                told = doors.folded(order)
                self.assertIsInstance(told, Doors)
                self.assertEqual(rows(told), rows(Doors(*expected, LEAD)))
                self.assertTrue(doors.folded(names=order) == told)
        self.assertEqual(rows(doors), rows(Doors(*FOUR)))

    def test_no_door(self):
        doors = Doors(*FOUR)
        for names in (
            None, True, 0, 1.5, "", "put", b"put", [], ["put"], {}, {"put"}, {"put": 1}, tuple, Awkward(),
            ("put", "put"), ("put", "find", "put"), ("put", "find", "strike", "find"), ("wish",), ("put", "wish"),
            ("Put",), ("put ",), ("",), (None,), (True,), (0,), (b"put",), (["put"],), (("put",),), ({},), ("pu",),
            (Awkward(),), ("put", Awkward()), ("put",) * 300, ("putfind",), (("put", "find"),),
        ):
            with self.assertRaises(NoDoor) as caught:
                doors.folded(names)
            self.assertEqual(len(caught.exception.args), 1)
            self.assertIsInstance(caught.exception.args[0], str)
        self.assertEqual(rows(doors), rows(Doors(*FOUR)))


NO_DEEDS = (
    None, True, 0, 1.5, "put", "", b"put", [], {}, {"put"}, (), ("put",), ("put", "a", "a"), ["put", "a"],
    ("Put", "a"), ("put ", "a"), ("", "a"), ("wish", "a"), ("undo", "a"), (None, "a"), (0, "a"), (b"put", "a"),
    (["put"], "a"), (("put",), "a"), ("a", "put"), ("put", None), ("put", 1), ("put", True), ("put", b"a"),
    ("put", ["a"]), ("put", ("a",)), ("find", "a" * 61), ("find", "\n"), ("strike", "a;"), ("strike", "~"),
    ("put", "a\t"), ("put", Awkward()), (Awkward(), "a"), Awkward(), object(), ("put", "\u0131"),
)


class AnswersTest(unittest.TestCase):
    def test_put(self):
        doors = Doors(LOWER, PLAIN, PLAIN, PLAIN)
        deeds = [("put", "Ann"), ("put", "ann"), ("put", "ANN"), ("put", "An"), ("put", "")]
        self.assertEqual(answers(doors, deeds), [True, False, False, True, True])
        self.assertEqual(wished(doors, deeds), [True, True, True, True, True])

    def test_find_changes_nothing(self):
        doors = Doors(PLAIN, LOWER, PLAIN, LOWER)
        deeds = [("find", "a"), ("find", "a"), ("put", "a"), ("find", "A"), ("find", "A"), ("put", "A"), ("find", "b")]
        self.assertEqual(answers(doors, deeds), [False, False, True, True, True, True, False])
        self.assertEqual(wished(doors, deeds), [False, False, True, True, True, False, False])

    def test_strike(self):
        doors = Doors(PLAIN, PLAIN, LOWER, PLAIN)
        deeds = [("strike", "a"), ("put", "a"), ("strike", "A"), ("find", "a"), ("strike", "a"), ("put", "a")]
        self.assertEqual(answers(doors, deeds), [False, True, True, False, False, True])
        self.assertEqual(wished(doors, deeds), [False, True, False, True, True, True])

    def test_empty_form(self):
        doors = Doors(Folding((("drop", "ab"),)), PLAIN, PLAIN, PLAIN)
        deeds = [("put", "abba"), ("put", ""), ("find", ""), ("find", "a"), ("strike", ""), ("find", "")]
        self.assertEqual(answers(doors, deeds), [True, False, True, False, True, False])

    def test_no_deeds_at_all(self):
        told = answers(Doors(*FOUR), [])
        self.assertEqual(told, [])
        self.assertIs(type(told), list)
        self.assertEqual(wished(doors=Doors(*FOUR), deeds=[]), [])

    def test_many(self):
        chance = random.Random(20)
        for _ in range(400):
            doors = of_rows([random_row(chance, 4) for _ in range(4)])
            deeds = [(chance.choice(NAMES), random_text(chance)) for _ in range(chance.randint(0, 60))]
            self.check(doors, deeds)

    def test_three_hundred(self):
        chance = random.Random(21)
        deeds = [(chance.choice(NAMES), "".join(chance.choices(CHARACTERS, k=chance.choice((1, 60))))) for _ in range(300)]
        for put in (PLAIN, LOWER, CUT, Folding((("cut", 1),))):
            self.check(Doors(put, CUT, put, LOWER), deeds)

    def check(self, doors, deeds):
        before = copy.deepcopy(deeds)
        told = answers(doors, deeds)
        again = wished(doors=doors, deeds=deeds)
        self.assertEqual(told, told_by(rows(doors)[:3], deeds))
        self.assertEqual(again, told_by(rows(doors)[3:] * 3, deeds))
        self.assertTrue(all(answer is True or answer is False for answer in told + again))
        self.assertEqual(deeds, before)

    def test_no_list(self):
        for value in (None, True, 0, 1.5, "", "put", b"", (), (("put", "a"),), {}, {("put", "a")}, list, Awkward()):
            for call in (answers, wished):
                with self.assertRaises(NoDeed) as caught:
                    call(Doors(*FOUR), value)
                self.assertEqual(caught.exception.index, 0)
                self.assertIs(type(caught.exception.index), int)

    def test_no_deed(self):
        for value in NO_DEEDS:
            for deeds, index in (
                ([value], 0),
                ([("put", "a"), value], 1),
                ([("put", "a"), ("find", ""), value, ("put", "a"), None], 2),
                ([("put", "a")] * 299 + [value], 299),
            ):
                before = list(deeds)
                for call in (answers, wished):
                    with self.assertRaises(NoDeed) as caught:
                        call(Doors(*FOUR), deeds)
                    self.assertEqual(caught.exception.index, index)
                self.assertEqual(len(deeds), len(before))
                self.assertTrue(all(one is other for one, other in zip(deeds, before)))

    def test_new_lists(self):
        doors = Doors(PLAIN, LOWER, PLAIN, LOWER)
        deeds = [("put", "a"), ("find", "A")]
        for call in (answers, wished):
            told = call(doors, deeds)
            told.append("more")
            self.assertEqual(call(doors, deeds), [True, True])
        deeds.append(("find", "b"))
        self.assertEqual(answers(doors, deeds), [True, True, False])


def random_row(chance, most, named="aA-"):
    return tuple(random_step(chance, named) for _ in range(chance.randint(0, most)))


def random_text(chance):
    return "".join(chance.choice("aA-b") for _ in range(chance.randint(0, 6)))


def changed(chance, steps, named="aA-"):
    """Nearly the same steps, perhaps the same."""
    steps = list(steps)
    way = chance.randint(0, 4)
    if way == 0 and steps:
        del steps[chance.randrange(len(steps))]
    elif way == 1 and len(steps) > 1:
        first, second = chance.sample(range(len(steps)), 2)
        steps[first], steps[second] = steps[second], steps[first]
    elif way == 2 and len(steps) < 6:
        steps.insert(chance.randint(0, len(steps)), random_step(chance, named))
    elif way == 3 and steps and len(steps) < 6:
        at = chance.randrange(len(steps))
        steps.insert(at, steps[at])
    return tuple(steps)


def random_doors(chance, most=4, named="aA-"):
    """Doors that are much like the wish and like each other, so that many are right or nearly so."""
    wish = random_row(chance, most, named)
    put = changed(chance, wish, named)
    # What makes no two texts the same may go behind the wish without harm.
    if chance.random() < 0.2 and len(wish) < 6:
        put = wish + (("swap", "a", chance.choice("qa")),)
    if chance.random() < 0.6:
        return put, put, put, wish
    return put, changed(chance, put, named), changed(chance, put, named), wish


class FirstBreakTest(unittest.TestCase):
    def check(self, doors, told):
        """Holds a list of deeds against the plain store."""
        self.assertIs(type(told), list)
        self.assertTrue(all(type(deed) is tuple and len(deed) == 2 and deed[0] in NAMES for deed in told))
        self.assertTrue(all(type(text) is str and len(text) <= 60 for _, text in told))
        self.assertTrue(all(set(text) <= set(CHARACTERS) for _, text in told))
        self.assertTrue(breaks(doors, told), (doors, told))
        self.assertNotEqual(answers(of_rows(doors), told), wished(of_rows(doors), told))

    def test_short_lists(self):
        chance = random.Random(22)
        # A letter that the steps name, its capital, a sign that they name, and another one.
        looked_at = texts("aA-.", 2)
        single = [(name, text) for name in NAMES for text in looked_at]
        longer = [(name, text) for name in NAMES for text in texts("aA-", 3)]
        held = {True: 0, False: 0}
        while min(held.values()) < 12 or sum(held.values()) < 60:
            doors = random_doors(chance)
            told = first_break(of_rows(doors))
            right = told is None
            if held[right] > 45:
                continue
            held[right] += 1
            self.assertFalse(any(breaks(doors, [deed]) for deed in longer), doors)
            if not right:
                self.check(doors, told)
                self.assertGreater(len(told), 1)
            for deeds in itertools.product(single, repeat=2):
                if breaks(doors, deeds):
                    self.assertFalse(right, (doors, deeds))
                    self.assertEqual(len(told), 2)
                    self.assertLessEqual(sum(len(text) for _, text in told), sum(len(text) for _, text in deeds), doors)

    def test_longer_lists_where_the_doors_are_right(self):
        chance = random.Random(23)
        single = [(name, text) for name in NAMES for text in ("", "a", "A", "-", "a-")]
        held = 0
        while held < 12:
            doors = random_doors(chance)
            if first_break(of_rows(doors)) is None and len(doors[3]) > 1:
                held += 1
                for deeds in itertools.product(single, repeat=3):
                    self.assertFalse(breaks(doors, deeds), (doors, deeds))
                for _ in range(300):
                    deeds = [(chance.choice(NAMES), random_text(chance)) for _ in range(40)]
                    self.assertFalse(breaks(doors, deeds), (doors, deeds))

    def test_by_states(self):
        chance = random.Random(24)
        found = {}
        for _ in range(500):
            doors = random_doors(chance, 5, "abA-")
            told = first_break(of_rows(doors))
            least = least_break(doors, "abcABCqQ-.")
            if told is None:
                self.assertIsNone(least, doors)
            else:
                self.check(doors, told)
                self.assertEqual(len(told), 2)
                self.assertEqual(len(told[0][1] + told[1][1]), least, doors)
            found[least] = found.get(least, 0) + 1
        self.assertGreater(found[None], 50)
        self.assertGreater(len(found), 5)

    def test_edges(self):
        self.assertIsNone(first_break(Doors(PLAIN, PLAIN, PLAIN, PLAIN)))
        self.assertIsNone(first_break(doors=Doors(CUT, CUT, CUT, CUT)))
        # Other forms than wished, but for the same texts.
        upper = Folding((("lower",), ("swap", "a", "A"), ("swap", "z", "Z")))
        self.assertIsNone(first_break(Doors(upper, upper, upper, LOWER)))
        self.assertIsNone(first_break(Doors(LOWER, LOWER, LOWER, upper)))
        # The same forms by other steps.
        twice = Folding((("lower",), ("lower",)))
        self.assertIsNone(first_break(Doors(LOWER, twice, LOWER + twice, LOWER)))

    def test_each_door(self):
        for name, at in (("find", 1), ("strike", 2)):
            four = [LOWER, LOWER, LOWER, LOWER]
            four[at] = PLAIN
            told = first_break(Doors(*four))
            self.assertEqual([deed[0] for deed in told], ["put", name])
            self.assertEqual(len(told[0][1] + told[1][1]), 2)
            four = [PLAIN, PLAIN, PLAIN, PLAIN]
            four[at] = Folding((("drop", "a"),))
            self.assertEqual(first_break(Doors(*four)), [("put", ""), (name, "a")])
            four = [CUT, CUT, CUT, PLAIN]
            told = first_break(Doors(*four))
            self.assertEqual(sorted(map(len, (told[0][1], told[1][1]))), [3, 4])

    def test_either_way(self):
        # Forms that are one though not wished, and forms that are not one though wished.
        told = first_break(Doors(LOWER, LOWER, LOWER, PLAIN))
        self.assertEqual(answers(Doors(LOWER, LOWER, LOWER, PLAIN), told)[1], told[1][0] != "put")
        told = first_break(Doors(PLAIN, PLAIN, PLAIN, LOWER))
        self.assertEqual(wished(Doors(PLAIN, PLAIN, PLAIN, LOWER), told)[1], told[1][0] != "put")
        drop = Folding((("drop", "a"),))
        told = first_break(Doors(drop, drop, drop, PLAIN))
        self.assertEqual(len(told[0][1] + told[1][1]), 1)

    def test_long_texts(self):
        # Only a text that fills the cut shows whether a letter is left out before it.
        cut = Folding((("cut", 9), ("drop", "a")))
        late = Folding((("drop", "a"), ("cut", 9)))
        told = first_break(Doors(cut, cut, cut, late))
        self.check(rows(Doors(cut, cut, cut, late)), told)
        self.assertEqual(sorted(map(len, (told[0][1], told[1][1]))), [0, 10])
        self.assertEqual(least_break(rows(Doors(cut, cut, cut, late)), "abcAB-"), 10)

    def test_told_lists_are_new(self):
        doors = Doors(PLAIN, LOWER, PLAIN, PLAIN)
        first = first_break(doors)
        before = list(first)
        first.clear()
        self.assertEqual(first_break(doors), before)
        self.assertEqual(rows(doors), rows(Doors(PLAIN, LOWER, PLAIN, PLAIN)))

    def test_of_many_states(self):
        # Those that took longest of many: six steps that remember, and nearly the same ones.
        for doors, least in MANY_STATES:
            self.assertEqual(least_break(doors, "abcdefABCDEF-01_"), least)
            told = first_break(of_rows(doors))
            self.assertEqual(None if told is None else len(told[0][1] + told[1][1]), least)
            if told is not None:
                self.check(doors, told)


MANY_STATES = (
    (
        (
            (("once", "d"), ("cut", 9), ("once", "B"), ("lower",), ("once", "b"), ("drop", "-1f")),
            (("once", "d"), ("cut", 9), ("once", "B"), ("lower",), ("once", "b"), ("drop", "-1f")),
            (("cut", 9), ("once", "d"), ("once", "B"), ("lower",), ("once", "b"), ("drop", "-1f")),
            (("once", "B"), ("cut", 9), ("once", "d"), ("lower",), ("once", "b"), ("drop", "-1f")),
        ),
        11,
    ),
    (
        (
            (("once", "D"), ("cut", 9), ("once", "F"), ("once", "d"), ("drop", "cBCdDF"), ("cut", 5)),
            (("once", "D"), ("cut", 9), ("once", "F"), ("once", "d"), ("drop", "cBCdDF"), ("cut", 5)),
            (("once", "D"), ("cut", 9), ("once", "F"), ("once", "d"), ("drop", "cBCdDF"), ("cut", 5)),
            (("once", "D"), ("cut", 9), ("once", "F"), ("drop", "cBCdDF"), ("once", "d"), ("cut", 5)),
        ),
        None,
    ),
)


class RightTest(unittest.TestCase):
    def test_right(self):
        chance = random.Random(25)
        told = []
        for _ in range(300):
            doors = of_rows(random_doors(chance))
            right = are_right(doors)
            self.assertIs(right, first_break(doors) is None)
            told.append(right)
        self.assertGreater(told.count(True), 30)
        self.assertGreater(told.count(False), 30)
        self.assertIs(are_right(doors=Doors(*FOUR)), False)

    def test_fewest_folded(self):
        chance = random.Random(26)
        found = {}
        for _ in range(300):
            doors = of_rows(random_doors(chance))
            if chance.random() < 0.5:
                doors = doors.folded(chance.choice(ALL_NAMES))
            told = fewest_folded(doors)
            self.assertIs(type(told), tuple)
            enough = [names for names in ALL_NAMES if first_break(doors.folded(names)) is None]
            fewest = [names for names in enough if len(names) == len(enough[0])]
            self.assertEqual([told], fewest, rows(doors))
            found[told] = found.get(told, 0) + 1
        self.assertEqual(sorted(found), sorted(ALL_NAMES))

    def test_fewest_of_few(self):
        self.assertEqual(fewest_folded(Doors(PLAIN, PLAIN, PLAIN, PLAIN)), ())
        self.assertEqual(fewest_folded(doors=Doors(LOWER, PLAIN, LOWER, LOWER)), ("find",))
        self.assertEqual(fewest_folded(Doors(PLAIN, LOWER, PLAIN, LOWER)), ("put", "strike"))
        self.assertEqual(fewest_folded(Doors(PLAIN, CUT, LEAD, LOWER)), NAMES)
        self.assertEqual(fewest_folded(Doors(PLAIN, LOWER, LOWER, LOWER)), ("put",))
        # One door is enough to be found out; with other forms than wished, all have to be folded.
        upper = Folding((("lower",), ("swap", "a", "A")))
        self.assertEqual(fewest_folded(Doors(upper, upper, upper, LOWER)), ())
        self.assertEqual(fewest_folded(Doors(upper, upper, LOWER, LOWER)), ("put", "find"))
        self.assertEqual(fewest_folded(Doors(upper, upper, PLAIN, LOWER)), NAMES)


if __name__ == "__main__":
    unittest.main()
