import random
import unittest

from cutmeet.breaking import breakers
from cutmeet.flats import Flat
from cutmeet.papers import is_paper
from cutmeet.rings import ring_cut, rings
from samples import all_lists, flat_pair, flat_pairs, make, state


class Breaking(unittest.TestCase):
    def check_told(self, web, told):
        self.assertIsInstance(told, tuple)
        ties, found = told
        self.assertIsInstance(ties, list)
        self.assertIsInstance(found, list)
        real = rings(web)
        self.assertEqual(ties, sorted(set(ties)))
        self.assertEqual(found, sorted(set(found)))
        self.assertTrue(set(found) <= set(real))
        self.assertTrue(all(set(ring) & set(ties) for ring in real))
        held = [k for ring in found for k in ring]
        self.assertEqual(len(held), len(set(held)))
        self.assertEqual(len(found), len(ties))

    def test_some(self):
        self.assertEqual(breakers(Flat(make("a", ""), [[]])), ([], []))
        self.assertEqual(breakers(Flat(make("a", "aa"), [[(0, 0), (0, 1)]])), ([0], [(0,)]))
        line = Flat(make("a b", "ab"), [[(0, 0)], [(0, 1)]])
        self.assertEqual(breakers(line), ([], []))
        back = Flat(make("a b", "ab ba"), [[(0, 0), (1, 1)], [(1, 0), (0, 1)]])
        ties, found = breakers(flat=back)
        self.assertIn(ties, [[0], [1]])
        self.assertEqual(found, [(0, 1)])
        # One tie there and two back: the one breaks both rings, which share it.
        web = make("a b", "ab ba ba")
        told = breakers(Flat(web, [[(0, 0), (1, 1), (2, 1)], [(2, 0), (1, 0), (0, 1)]]))
        self.assertEqual(told[0], [0])
        self.assertIn(told[1], [[(0, 1)], [(0, 2)]])

    def test_of_many(self):
        seen = {}
        for web, turns in flat_pairs(160, 300, 8, 8):
            told = breakers(Flat(web, turns))
            self.check_told(web, told)
            seen[len(told[0])] = seen.get(len(told[0]), 0) + 1
        self.assertGreater(min(seen[0], seen[1], seen[2], seen[3]), 5)

    def test_no_fewer_ties_do(self):
        for web, turns in flat_pairs(161, 60, 5, 5):
            real = rings(web)
            due = next(ties for ties in all_lists(web.many()) if all(set(ring) & set(ties) for ring in real))
            self.assertEqual(len(breakers(Flat(web, turns))[0]), len(due))

    def test_large_ones(self):
        chance = random.Random(162)
        for each in range(12):
            web, turns = flat_pair(chance, chance.randint(8, 12), chance.randint(8, 12))
            self.check_told(web, breakers(Flat(web, turns)))

    def test_a_paper_of_the_other_web(self):
        for web, turns in flat_pairs(163, 60):
            flat = Flat(web, turns)
            ties, found = breakers(flat)
            cuts = sorted(ring_cut(flat.other_web(), ring) for ring in found)
            self.assertIs(is_paper(flat.other_web().web(), (ties, cuts)), True)


class Kept(unittest.TestCase):
    def test_nothing_changes_and_told_is_the_askers_own(self):
        flat = Flat(make("a b", "ab ba"), [[(0, 0), (1, 1)], [(1, 0), (0, 1)]])
        before = (flat.turns(), flat.faces(), state(flat.web()))
        told = breakers(flat)
        kept = repr(told)
        told[0].append(9)
        told[1].clear()
        self.assertEqual(repr(breakers(flat)), kept)
        self.assertEqual((flat.turns(), flat.faces(), state(flat.web())), before)


if __name__ == "__main__":
    unittest.main()
