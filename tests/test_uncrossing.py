import random
import unittest

from cutmeet.crossing import cross, entered, join, meet
from cutmeet.cuts import is_cut
from cutmeet.errors import NoCut, NoStep
from cutmeet.uncrossing import stepped, steps_of, uncrossed
from cutmeet.webs import Web
from samples import (
    Stubborn, all_webs, endless, families, make, no_cuts, odd_things, other_names, plain_cross, put, state, with_names,
)

STAR = make("a b c d e", "ab ac ad ae")
FAMILY = [("b", "c"), ("c", "d"), ("b",), ("d", "e"), ("b", "c")]
STEPS = [(0, 1), (1, 3), (1, 4)]
NO_STEPS = [
    (1, 0), (3, 1), (1, 1), (0, 0), (0, 5), (1, 5), (5, 6), (-1, 0), (-5, 1), (0, -4), (-4, -1), (0, 2), (0, 4), (2, 3),
    (), (0,), (1,), (0, 1, 3), (0, 1, 1), (False, 1), (0, True), (False, True), (True, 3), (True, True), [0, 1], [],
    "01", "0 1", "", None, True, 0, 1, {0: 1}, {0, 1}, ("0", "1"), (0, "1"), (0, None), (None, 1), ((0, 1),),
    ([0], [1]), (0, [1]), ({}, {}), (b"0", b"1"), (0, 10 ** 40), (10 ** 40, 10 ** 41), (0, Stubborn()), (Stubborn(), 1),
    (Stubborn(), Stubborn()), (endless(), 1), range(2), b"\x00\x01", (1j, 1), (0, 1j),
]


class Steps(unittest.TestCase):
    def test_steps_of(self):
        self.assertEqual(steps_of(STAR, FAMILY), STEPS)
        self.assertEqual(steps_of(family=FAMILY[::-1], web=STAR), [(0, 3), (1, 3), (3, 4)])
        for family in [[], [("b",)], [("b",), ("b",)], [("b",), ("b", "c"), ("d", "e")]]:
            self.assertEqual(steps_of(STAR, family), [])

    def test_steps_of_many_families(self):
        seen = 0
        for web in all_webs(37, 60):
            for family in families(web, 38, 4, 10):
                many = len(family)
                due = [(i, j) for i in range(many) for j in range(many) if i < j and
                       plain_cross(web, family[i], family[j])]
                self.assertEqual(steps_of(web, family), due)
                seen += len(due)
        self.assertGreater(seen, 200)

    def test_stepped(self):
        self.assertEqual(stepped(STAR, FAMILY, (0, 1)), [("c",), ("b", "c", "d"), ("b",), ("d", "e"), ("b", "c")])
        self.assertEqual(stepped(STAR, FAMILY, (1, 3)), [("b", "c"), ("d",), ("b",), ("c", "d", "e"), ("b", "c")])
        self.assertEqual(
            stepped(step=(1, 4), family=FAMILY, web=STAR), [("b", "c"), ("c",), ("b",), ("d", "e"), ("b", "c", "d")])

    def test_stepped_of_many_families(self):
        for web in all_webs(39, 40):
            for family in families(web, 40, 3, 8):
                for i, j in steps_of(web, family):
                    due = list(family)
                    due[i], due[j] = meet(web, family[i], family[j]), join(web, family[i], family[j])
                    told = stepped(web, family, (i, j))
                    self.assertEqual(told, due)
                    self.assertEqual(entered(web, told), entered(web, family))
                    self.assertTrue(all(is_cut(web, cut) for cut in told))

    def test_no_step(self):
        for thing in NO_STEPS + odd_things():
            with self.assertRaises(NoStep):
                stepped(STAR, FAMILY, thing)
            with self.assertRaises(NoStep):
                stepped(web=STAR, family=FAMILY, step=thing)
        for family in [[], [("b",)], [("b",), ("c",)]]:
            with self.assertRaises(NoStep):
                stepped(STAR, family, (0, 1))

    def test_all_tuples_of_two_numbers(self):
        for i in range(-2, 8):
            for j in range(-2, 8):
                if (i, j) not in STEPS:
                    with self.assertRaises(NoStep):
                        stepped(STAR, FAMILY, (i, j))

    def test_no_cut_ahead(self):
        for thing in no_cuts() + odd_things() + [("a",)]:
            for at in range(3):
                family = [("b", "c"), ("c", "d")]
                family.insert(at, thing)
                for ask in [steps_of, uncrossed]:
                    with self.assertRaises(NoCut):
                        ask(STAR, family)
                    with self.assertRaises(NoCut):
                        ask(family=family, web=STAR)
                for step in [(0, 1), (0, 2), None, (True, 1), (5, 6)]:
                    with self.assertRaises(NoCut):
                        stepped(STAR, family, step)


class Uncrossed(unittest.TestCase):
    def check(self, web, family):
        kept = list(family)
        told = uncrossed(web, family)
        self.assertIsInstance(told, tuple)
        after, steps = told
        self.assertEqual(family, kept)
        self.assertEqual(steps_of(web, after), [])
        self.assertFalse(any(cross(web, one, other) for one in after for other in after))
        for step in steps:
            self.assertIn(step, steps_of(web, kept))
            kept = stepped(web, kept, step)
        self.assertEqual(after, kept)
        self.assertEqual(entered(web, after), entered(web, family))
        if steps_of(web, family) == []:
            self.assertEqual(told, (family, []))
        self.assertEqual(uncrossed(family=family, web=web), told)
        return len(steps)

    def test_some(self):
        self.assertEqual(uncrossed(STAR, []), ([], []))
        self.assertEqual(uncrossed(STAR, [("b",), ("b", "c"), ("b",)]), ([("b",), ("b", "c"), ("b",)], []))
        self.assertEqual(uncrossed(STAR, [("b", "c"), ("c", "d")]), ([("c",), ("b", "c", "d")], [(0, 1)]))
        self.assertGreater(self.check(STAR, FAMILY), 0)

    def test_many(self):
        seen = 0
        for web in all_webs(41, 80):
            for family in families(web, 42, 4, 12):
                seen += self.check(web, family)
        self.assertGreater(seen, 200)

    def test_thirty_cuts_of_twelve_places(self):
        chance = random.Random(43)
        star = Web(list("abcdefghijkl"), [("a", other) for other in "bcdefghijkl"])
        for many in [30, 33]:
            family = [tuple(sorted(chance.sample("bcdefghijkl", chance.randint(3, 8)))) for each in range(many)]
            self.assertGreater(self.check(star, family), 30)
        windows = [tuple("bcdefghijkl"[at:at + size]) for size in range(4, 8) for at in range(11 - size)]
        self.assertGreater(self.check(star, windows), 30)

    def test_told_may_be_handed_in_again(self):
        for web in all_webs(44, 20):
            for family in families(web, 45, 2):
                after = uncrossed(web, family)[0]
                self.assertEqual(uncrossed(web, after), (after, []))

    def test_other_names(self):
        for web in all_webs(46, 30):
            names = other_names(web)
            named = with_names(web, names)
            for family in families(web, 47, 2):
                self.assertEqual(steps_of(named, [put(names, cut) for cut in family]), steps_of(web, family))


class Kept(unittest.TestCase):
    def test_told_is_the_askers_own(self):
        before = state(STAR)
        family = list(FAMILY)
        for ask in [lambda: steps_of(STAR, family), lambda: stepped(STAR, family, (0, 1)),
                    lambda: uncrossed(STAR, family)[0], lambda: uncrossed(STAR, family)[1],
                    lambda: uncrossed(STAR, [("b",), ("c",)])[0], lambda: uncrossed(STAR, [("b",), ("c",)])[1]]:
            told = ask()
            kept = list(told)
            told.append(("z",))
            self.assertEqual(ask(), kept)
        self.assertEqual(family, FAMILY)
        uncut = [("b",), ("c",)]
        uncrossed(STAR, uncut)[0].append(("d",))
        self.assertEqual(uncut, [("b",), ("c",)])
        self.assertEqual(state(STAR), before)


if __name__ == "__main__":
    unittest.main()
