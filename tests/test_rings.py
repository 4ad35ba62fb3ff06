import itertools
import unittest

from cutmeet.bares import is_bare
from cutmeet.cuts import all_cuts
from cutmeet.errors import NoCut, NoRing, TooMany
from cutmeet.flats import Flat
from cutmeet.rings import cut_ring, ring_cut, rings
from cutmeet.webs import Web
from samples import (
    Stubborn, all_lists, all_turned, all_webs, endless, flat_pairs, make, no_cuts, odd_things, other_names, plain_cuts,
    plain_ties, state, with_names,
)

# Two places with ties there and back, standing round each place so that none goes across another.
BACK = Flat(make("a b", "ab ba ab"), [[(0, 0), (1, 1), (2, 0)], [(2, 1), (1, 0), (0, 1)]])
# A tree of three ties: each of them is a ring of the other web.
TREE = Flat(make("a b c d", "ab ac ad"), [[(0, 0), (1, 0), (2, 0)], [(0, 1)], [(1, 1)], [(2, 1)]])


def is_plain_ring(web, ties):
    """Whether these ties are a ring: as many places as ties, each left once and come to once, and one round."""
    pairs = [web.tie(k) for k in ties]
    onward = dict(pairs)
    if not pairs or len(onward) < len(pairs) or sorted(onward) != sorted(set(onward.values())):
        return False
    place, steps = onward[pairs[0][0]], 1
    while place != pairs[0][0]:
        place, steps = onward[place], steps + 1
    return steps == len(pairs)


def plain_rings(web):
    return sorted(tuple(ties) for ties in all_lists(web.many()) if is_plain_ring(web, ties))


def ring_of(*counts):
    """A web that is one ring, with so many ties from each place to the next one."""
    places = list("abcdefghijkl"[:len(counts)])
    after = places[1:] + places[:1]
    return Web(places, [pair for pair, many in zip(zip(places, after), counts) for each in range(many)])


class Rings(unittest.TestCase):
    def test_some(self):
        self.assertEqual(rings(make("a", "")), [])
        self.assertEqual(rings(make("a", "aa aa")), [(0,), (1,)])
        self.assertEqual(rings(make("a b", "ab ba")), [(0, 1)])
        self.assertEqual(rings(make("a b", "ab ba ab bb")), [(0, 1), (1, 2), (3,)])
        self.assertEqual(rings(web=make("a b c", "bc ca ab")), [(0, 1, 2)])
        # Two rings that share a place, and a third one that shares ties with both.
        self.assertEqual(rings(make("a b c", "ab ba bc cb")), [(0, 1), (2, 3)])
        self.assertEqual(rings(make("a b c", "ab ba bc cb ca")), [(0, 1), (0, 2, 4), (2, 3)])
        # Parts that do not hang together.
        self.assertEqual(rings(make("a b c d", "dc ab cd ba")), [(0, 2), (1, 3)])

    def test_none_without_a_way_back(self):
        for web in [make("a b", "ab ab"), make("a b c", "ab bc ac"), make("a b c d", "ab ac bd cd ad"), make("a b", "")]:
            self.assertEqual(rings(web), [])

    def test_of_many_webs(self):
        seen = {}
        for web in all_webs(150, 150):
            if web.many() <= 11:
                told = rings(web)
                self.assertEqual(told, plain_rings(web))
                self.assertEqual(len(told), len(set(told)))
                for ring in told:
                    seen[len(ring)] = seen.get(len(ring), 0) + 1
        self.assertGreater(min(seen[1], seen[2], seen[3]), 20)

    def test_many_places(self):
        web = ring_of(*[1] * 12)
        self.assertEqual(rings(web), [tuple(range(12))])
        self.assertEqual(rings(all_turned(web)), [tuple(range(12))])
        told = rings(ring_of(*[2] * 8 + [1] * 4))
        self.assertEqual(len(told), 256)
        self.assertEqual(told, sorted(set(told)))

    def test_just_one_thousand(self):
        for web in [ring_of(10, 10, 10), ring_of(5, 5, 5, 8), ring_of(2, 2, 2, 5, 5, 5)]:
            told = rings(web)
            self.assertEqual(len(set(told)), 1000)
            self.assertEqual(told, sorted(told))
            self.assertTrue(all(is_plain_ring(web, ring) for ring in told))

    def test_more_than_one_thousand(self):
        few = ring_of(5, 5, 5, 8)
        webs = [Web(few.places(), few.ties() + [(place, place)]) for place in few.places()]
        webs += [Web(few.places(), [(place, place)] + few.ties()) for place in few.places()]
        webs += [ring_of(3, 3, 3, 3, 3, 3, 3, 1, 1, 1), ring_of(7, 7, 7, 3), ring_of(*[2] * 10), ring_of(4, 4, 8, 8)]
        for web in webs:
            with self.assertRaises(TooMany):
                rings(web)

    def test_all_of_six_places_tied_to_all(self):
        places = list("abcdef")
        # For n places of the six there are (n - 1)! rings: 15 + 40 + 90 + 144 + 120.
        self.assertEqual(len(rings(Web(places, list(itertools.permutations(places, 2))))), 409)

    def test_ways_that_lead_nowhere(self):
        # Tens of thousands of ways lead from a to l, none of them back.
        places = list("abcdefghijkl")
        pairs = [pair for at, pair in enumerate(zip(places, places[1:])) for each in range(3 if at < 7 else 2)]
        self.assertEqual(rings(Web(places, pairs + [("l", "l")])), [(len(pairs),)])


class BareCuts(unittest.TestCase):
    def test_some(self):
        self.assertEqual(cut_ring(TREE, ("b",)), (0,))
        self.assertEqual(cut_ring(cut=("d",), flat=TREE), (2,))
        self.assertEqual(ring_cut(TREE, (1,)), ("c",))
        self.assertEqual(ring_cut(ring=(0,), flat=TREE), ("b",))
        line = Flat(make("a b", "ab ab"), [[(0, 0), (1, 0)], [(1, 1), (0, 1)]])
        self.assertEqual(cut_ring(line, ("b",)), (0, 1))
        self.assertEqual(ring_cut(line, (0, 1)), ("b",))
        self.assertEqual(rings(line.other_web().web()), [(0, 1)])
        self.assertEqual(rings(BACK.other_web().web()), [])

    def test_each_is_the_others(self):
        seen = 0
        for web, turns in flat_pairs(151, 200, 7, 7):
            flat = Flat(web, turns)
            bare = [cut for cut in all_cuts(web) if is_bare(web, cut)]
            told = [cut_ring(flat, cut) for cut in bare]
            self.assertEqual(sorted(told), rings(flat.other_web().web()))
            for cut, ring in zip(bare, told):
                self.assertIsInstance(ring, tuple)
                self.assertEqual(list(ring), plain_ties(web, cut))
                self.assertEqual(ring_cut(flat, ring), cut)
                seen += 1
        self.assertGreater(seen, 300)

    def test_no_ring_of_any_other_tuple(self):
        seen = 0
        for web, turns in flat_pairs(152, 60, 5, 5):
            flat = Flat(web, turns)
            real = rings(flat.other_web().web())
            for ties in all_lists(web.many()):
                if tuple(ties) not in real:
                    seen += 1
                    with self.assertRaises(NoRing):
                        ring_cut(flat, tuple(ties))
        self.assertGreater(seen, 1000)

    def test_no_ring_of_anything(self):
        line = Flat(make("a b c", "ab ab bc"), [[(0, 0), (1, 0)], [(1, 1), (0, 1), (2, 0)], [(2, 1)]])
        self.assertEqual(ring_cut(line, (0, 1)), ("b", "c"))
        self.assertEqual(ring_cut(line, (2,)), ("c",))
        things = [
            (), (0,), (1,), (1, 0), (0, 0), (0, 1, 1), (0, 1, 2), (0, 2), [0, 1], [2], {0: 1, 1: 1}, {0, 1}, "01", "2", 2, 0,
            (False, True), (False, 1), (0, True), (True,), (3,), (-1,), (2, 3), (0, 1, 10 ** 40), ("2",), ("0", "1"), (None,),
            ((0, 1),), ([2],), (2, None), (0, Stubborn()), (Stubborn(),), Stubborn(), endless(), (endless(),), (2 + 0j,),
            range(2), b"\x00\x01", (b"2",), None, True, (0, 1) * 50000, ("b", "c"), ("c",), iter((0, 1)), frozenset([2]),
        ]
        for thing in things + odd_things():
            with self.assertRaises(NoRing):
                ring_cut(line, thing)
            with self.assertRaises(NoRing):
                ring_cut(ring=thing, flat=line)

    def test_no_cut_of_anything(self):
        for flat in [TREE, BACK, Flat(make("a", ""), [[]])]:
            for thing in no_cuts() + odd_things() + [("a",), ("a", "b"), ["b"], (0,), (0, 1), ("e",)]:
                with self.assertRaises(NoCut):
                    cut_ring(flat, thing)
                with self.assertRaises(NoCut):
                    cut_ring(cut=thing, flat=flat)

    def test_no_cut_of_what_is_not_bare(self):
        seen = 0
        for web, turns in [(TREE.web(), TREE.turns())] + flat_pairs(153, 100, 7, 4):
            flat = Flat(web, turns)
            for cut in plain_cuts(web):
                if not is_bare(web, cut):
                    seen += 1
                    with self.assertRaises(NoCut):
                        cut_ring(flat, cut)
        self.assertGreater(seen, 100)
        with self.assertRaises(NoCut):
            cut_ring(TREE, ("b", "c"))


class TheWhole(unittest.TestCase):
    def test_other_names_and_all_ties_turned(self):
        for web in all_webs(154, 60):
            told = rings(web)
            self.assertEqual(rings(with_names(web, other_names(web))), told)
            self.assertEqual(rings(all_turned(web)), told)

    def test_a_tie_in_no_cut_is_one_that_a_ring_has(self):
        for web in all_webs(155, 60):
            ringed = {k for ring in rings(web) for k in ring}
            cut = {k for cut in plain_cuts(web) for k in plain_ties(web, cut)}
            self.assertEqual((ringed | cut, ringed & cut), (set(range(web.many())), set()))


class Kept(unittest.TestCase):
    def test_nothing_changes_and_told_is_the_askers_own(self):
        web = make("a b", "ab ba ab bb")
        before = state(web)
        told = rings(web)
        told.clear()
        self.assertEqual(rings(web), [(0, 1), (1, 2), (3,)])
        self.assertEqual(state(web), before)
        before = (TREE.turns(), TREE.faces(), state(TREE.web()))
        for each in range(2):
            self.assertEqual(ring_cut(TREE, (1,)), ("c",))
            self.assertEqual(cut_ring(TREE, ("c",)), (1,))
        self.assertEqual((TREE.turns(), TREE.faces(), state(TREE.web())), before)


if __name__ == "__main__":
    unittest.main()
