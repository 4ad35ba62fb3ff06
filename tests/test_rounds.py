import random
import unittest

from cutmeet.meeters import is_meeter
from cutmeet.rounds import fewest, how_few, made_less
from samples import (
    Refusals, all_turned, apart, hanging_webs, held_ties, large_webs, lean_list, make, other_names, plain_meeters,
    plain_meets, state, with_names,
)

LINE = make("a b c d", "ab bc cd")
ROUND = make("a b c d", "ab bd ac cd")
SHORT = make("a b c d", "ba ca bd cd bc")


def plain_most(web):
    """As many cuts as share no tie, by trying all."""
    held = [set(ties) for ties in held_ties(web)]

    def most(at, used):
        if at == len(held):
            return 0
        without = most(at + 1, used)
        return without if held[at] & used else max(without, 1 + most(at + 1, used | held[at]))

    return most(0, set())


class Rounds(unittest.TestCase):
    def test_fewest(self):
        self.assertEqual(fewest(LINE), [0, 1, 2])
        self.assertIn(fewest(ROUND), [[0, 1], [2, 3]])
        self.assertEqual(fewest(web=make("a b", "ab")), [0])
        self.assertEqual(how_few(LINE), 3)
        self.assertEqual(how_few(web=ROUND), 2)

    def test_where_there_is_no_cut(self):
        for web in [make("a", ""), make("a", "aa aa"), make("a b", "ab ba"), make("a b c", "ab bc ca aa")]:
            self.assertEqual(fewest(web), [])
            self.assertEqual(how_few(web), 0)
            self.assertIsNone(made_less(web, []))
            if web.many():
                self.assertEqual(made_less(web, [1]), ([1], []))

    def test_of_many_webs(self):
        seen = {}
        for web in hanging_webs(72, 250, 6, 9):
            lists = plain_meeters(web)
            told = fewest(web)
            self.assertIn(told, lists)
            self.assertEqual(len(told), len(lists[0]))
            self.assertEqual(how_few(web), len(lists[0]))
            seen[len(told)] = seen.get(len(told), 0) + 1
        self.assertGreater(len(seen), 4)

    def test_as_many_cuts_share_no_tie(self):
        for web in hanging_webs(73, 100, 5, 8):
            self.assertEqual(how_few(web), plain_most(web))

    def test_made_less(self):
        self.assertIsNone(made_less(LINE, [0, 1, 2]))
        self.assertIsNone(made_less(ROUND, [0, 1]))
        self.assertIn(made_less(ties=[0, 1, 2], web=ROUND), [([2], []), ([0, 1], [3])])
        self.assertEqual(made_less(make("a b", "ab ba"), [0]), ([0], []))
        # Each tie is wanted, and still there is a meeter with less.
        web = make("a b c", "ba ac bc")
        self.assertEqual(made_less(web, [0, 1]), ([0, 1], [2]))

    def check_less(self, web, ties, lists):
        told = made_less(web, ties)
        if len(ties) == len(lists[0]):
            self.assertIsNone(told)
            return
        self.assertIsInstance(told, tuple)
        outs, ins = told
        self.assertEqual(outs, sorted(set(outs)))
        self.assertEqual(ins, sorted(set(ins)))
        self.assertLessEqual(set(outs), set(ties))
        self.assertEqual(set(ins) & set(ties), set())
        self.assertLessEqual(set(ins), set(range(web.many())))
        self.assertEqual(len(outs), len(ins) + 1)
        self.assertIn(sorted(set(ties) - set(outs) | set(ins)), lists)

    def test_made_less_of_many_meeters(self):
        for web in hanging_webs(74, 60, 6, 7):
            lists = plain_meeters(web)
            for ties in lists:
                self.check_less(web, ties, lists)

    def test_twelve_places_and_thirty_ties(self):
        chance = random.Random(75)
        for web in large_webs(76, 12):
            told = fewest(web)
            held = held_ties(web)
            self.assertTrue(plain_meets(held, told))
            self.assertEqual(how_few(web), len(told))
            self.assertIsNone(made_less(web, told))
            # Made less by one at a time whatever meeter it is, it comes to as few.
            ties = lean_list(web, chance)
            less = made_less(web, ties)
            while less is not None:
                ties = sorted(set(ties) - set(less[0]) | set(less[1]))
                self.assertIs(is_meeter(web, ties), True)
                less = made_less(web, ties)
            self.assertEqual(len(ties), len(told))

    def test_all_ties_made_less(self):
        for web in large_webs(77, 3):
            outs, ins = made_less(web, list(range(30)))
            self.assertEqual((len(outs), ins), (1, []))


class Refused(unittest.TestCase, Refusals):
    def test_apart(self):
        for ask in [lambda web, ties: fewest(web), lambda web, ties: how_few(web), lambda web, ties: fewest(web=web),
                    lambda web, ties: how_few(web=web)]:
            self.refuse_apart(ask)

    def test_made_less(self):
        self.refuse_all(made_less)
        self.refuse_all(lambda web, ties: made_less(ties=ties, web=web))


class TheWhole(unittest.TestCase):
    def test_other_names_and_all_ties_turned(self):
        for web in hanging_webs(78, 60, 8, 14):
            for other in [with_names(web, other_names(web)), all_turned(web)]:
                self.assertEqual(how_few(other), how_few(web))


class Kept(unittest.TestCase):
    def test_nothing_changes_and_told_is_the_askers_own(self):
        for web in [ROUND, SHORT] + hanging_webs(79, 10):
            before = state(web)
            told = fewest(web)
            kept = list(told)
            told.append(9)
            self.assertEqual(fewest(web), kept)
            ties = list(range(web.many()))
            less = made_less(web, ties)
            again = repr(less)
            if less is not None:
                less[0].append(9)
                less[1].append(9)
            self.assertEqual(repr(made_less(web, ties)), again)
            self.assertEqual(ties, list(range(web.many())))
            self.assertEqual(state(web), before)


if __name__ == "__main__":
    unittest.main()
