import unittest

from cutmeet.cuts import all_cuts
from cutmeet.drawn import bundles, drawn, idle, undrawn
from cutmeet.errors import NoCut, NoTie
from cutmeet.meeters import is_meeter
from cutmeet.ways import all_reach, clumps, hangs
from cutmeet.webs import Web
from samples import (
    all_lists, all_turned, all_webs, apart, hanging, make, no_cuts, not_ties, odd_things, other_names, others, plain_cuts,
    plain_pieces, plain_ties, put_all, state, with_names,
)

LINE = make("a b c d", "ab bc cd")
# Rings with places in no order, a tie from a place to itself, several ties between two places.
MIXED = make("d b a c", "cb bc db dd ad ad")


def small_webs(seed, many=60, ties=6):
    return [web for web in all_webs(seed, many) if web.many() <= ties]


class Bundles(unittest.TestCase):
    def test_some(self):
        self.assertEqual(bundles(LINE, []), {"a": "a", "b": "b", "c": "c", "d": "d"})
        self.assertEqual(bundles(LINE, [1]), {"a": "a", "b": "b", "c": "b", "d": "d"})
        self.assertEqual(bundles(ties=[0, 2], web=LINE), {"a": "a", "b": "a", "c": "c", "d": "c"})
        self.assertEqual(bundles(LINE, [0, 1, 2]), {"a": "a", "b": "a", "c": "a", "d": "a"})
        self.assertEqual(bundles(MIXED, [0, 2, 3]), {"a": "a", "b": "b", "c": "b", "d": "b"})
        self.assertEqual(bundles(make("a", "aa"), [0]), {"a": "a"})
        self.assertEqual(bundles(make("b a", ""), []), {"a": "a", "b": "b"})

    def test_of_many(self):
        for web in small_webs(170):
            for ties in all_lists(web.many()):
                part = Web(web.places(), [web.tie(k) for k in ties])
                due = {place: piece[0] for piece in plain_pieces(part, web.places()) for place in piece}
                self.assertEqual(bundles(web, ties), due)

    def test_those_of_idle_ties_are_the_clumps(self):
        for web in all_webs(171, 120):
            named = bundles(web, idle(web))
            self.assertEqual(named, {place: clump[0] for clump in clumps(web) for place in clump})


class Drawn(unittest.TestCase):
    def test_some(self):
        self.assertEqual(state(drawn(LINE, [])), state(LINE))
        self.assertEqual(state(drawn(LINE, [1])), state(make("a b d", "ab bb bd")))
        self.assertEqual(state(drawn(ties=[0, 1, 2], web=LINE)), state(make("a", "aa aa aa")))
        self.assertEqual(state(drawn(MIXED, [2])), state(make("a b c", "cb bc bb bb ab ab")))
        self.assertEqual(state(drawn(MIXED, [3])), state(MIXED))
        self.assertEqual(state(drawn(make("a b", ""), [])), state(make("a b", "")))

    def test_of_many(self):
        for web in small_webs(172):
            for ties in all_lists(web.many()):
                named = bundles(web, ties)
                told = drawn(web, ties)
                self.assertEqual(told.places(), sorted(set(named.values())))
                self.assertEqual(told.ties(), [(named[a], named[b]) for a, b in web.ties()])

    def test_meeters_draw_all_together(self):
        for web in hanging(small_webs(173, 80)):
            for ties in all_lists(web.many()):
                self.assertIs(all_reach(drawn(web, ties)), is_meeter(web, ties))

    def test_large(self):
        names = ["longname", "b", "c", "d", "e", "f", "g", "h", "i", "j", "k", "zz"]
        web = Web(names, [(names[k % 12], names[(k * 5 + 1) % 12]) for k in range(30)])
        self.assertEqual(drawn(web, list(range(30))).many(), 30)
        self.assertEqual(len(drawn(web, list(range(30))).places()), len(plain_pieces(web, web.places())))


class Undrawn(unittest.TestCase):
    def test_some(self):
        self.assertEqual(undrawn(LINE, [1], ("d",)), ("d",))
        self.assertEqual(undrawn(LINE, [1], ("b", "d")), ("b", "c", "d"))
        self.assertEqual(undrawn(cut=("b", "c", "d"), ties=[], web=LINE), ("b", "c", "d"))
        self.assertEqual(undrawn(make("a b c", "bc"), [0], ("a",)), ("a",))
        self.assertEqual(undrawn(make("a b c", "bc"), [0], ("b",)), ("b", "c"))

    def test_just_the_cuts_in_which_none_of_the_ties_lies(self):
        for web in small_webs(174):
            cuts = plain_cuts(web)
            for ties in all_lists(web.many()):
                due = [cut for cut in cuts if not set(plain_ties(web, cut)) & set(ties)]
                told = [undrawn(web, ties, cut) for cut in plain_cuts(drawn(web, ties))]
                self.assertEqual(sorted(told), due)
                self.assertEqual(len(told), len(due))

    def test_no_cut_of_anything(self):
        for web, ties in [(LINE, [1]), (LINE, []), (LINE, [0, 1, 2]), (MIXED, [2])]:
            for thing in no_cuts() + odd_things() + [("c",), ("a", "b", "d"), ("a",)]:
                with self.assertRaises(NoCut):
                    undrawn(web, ties, thing)
                with self.assertRaises(NoCut):
                    undrawn(cut=thing, ties=ties, web=web)

    def test_cuts_of_the_web_that_are_none_of_the_drawn_web(self):
        self.assertEqual(undrawn(LINE, [], ("c", "d")), ("c", "d"))
        for cut in [("c", "d"), ("b", "c", "d")]:
            with self.assertRaises(NoCut):
                undrawn(LINE, [1], cut)

    def test_no_tie_ahead_of_no_cut(self):
        for thing in not_ties(3):
            for cut in [("d",), None, ("z",), ()]:
                with self.assertRaises(NoTie):
                    undrawn(LINE, thing, cut)

    def test_no_tie(self):
        for web in [LINE, make("a b c d", "ab ba cd")]:
            for thing in not_ties(3):
                for ask in [bundles, drawn, lambda web, ties: bundles(ties=ties, web=web),
                            lambda web, ties: drawn(ties=ties, web=web)]:
                    with self.assertRaises(NoTie):
                        ask(web, thing)


class Idle(unittest.TestCase):
    def test_some(self):
        self.assertEqual(idle(make("a", "")), [])
        self.assertEqual(idle(make("a", "aa aa")), [0, 1])
        self.assertEqual(idle(LINE), [])
        self.assertEqual(idle(web=MIXED), [0, 1, 3])
        self.assertEqual(idle(make("a b c d", "ab ba cd")), [0, 1])

    def test_just_those_that_lie_in_no_cut(self):
        seen = 0
        for web in all_webs(175, 150) + apart():
            held = {k for cut in plain_cuts(web) for k in plain_ties(web, cut)}
            told = idle(web)
            self.assertEqual(told, [k for k in range(web.many()) if k not in held])
            seen += len(told)
        self.assertGreater(seen, 100)

    def test_other_names_and_all_ties_turned(self):
        for web in all_webs(176, 40):
            names = other_names(web)
            self.assertEqual(idle(with_names(web, names)), idle(web))
            self.assertEqual(idle(all_turned(web)), idle(web))
            ties = list(range(0, web.many(), 3))
            cuts = [undrawn(web, ties, cut) for cut in all_cuts(drawn(web, ties))]
            named = with_names(web, names)
            told = [undrawn(named, ties, cut) for cut in all_cuts(drawn(named, ties))]
            self.assertEqual(sorted(told), put_all(names, cuts))
            turned = all_turned(web)
            told = [undrawn(turned, ties, cut) for cut in all_cuts(drawn(turned, ties))]
            self.assertEqual(sorted(told), sorted(others(web, cut) for cut in cuts))
            self.assertIs(hangs(drawn(web, ties)), hangs(web))


class Kept(unittest.TestCase):
    def test_nothing_changes_and_told_is_the_askers_own(self):
        before, ties = state(MIXED), [0, 2]
        told = bundles(MIXED, ties)
        told["a"] = None
        told.clear()
        self.assertEqual(bundles(MIXED, ties), {"a": "a", "b": "b", "c": "b", "d": "b"})
        made = drawn(MIXED, ties)
        kept = state(made)
        made.ties().clear()
        made.places().clear()
        ties.append(5)
        self.assertEqual(state(made), kept)
        self.assertEqual(ties, [0, 2, 5])
        told = idle(MIXED)
        told.clear()
        self.assertEqual(idle(MIXED), [0, 1, 3])
        self.assertEqual(state(MIXED), before)


if __name__ == "__main__":
    unittest.main()
