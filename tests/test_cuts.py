import unittest

from cutmeet.cuts import all_cuts, is_cut, ties_of
from cutmeet.errors import NoCut, TooMany
from cutmeet.webs import Web
from samples import (
    Stubborn, all_turned, all_webs, chance_webs, make, named_webs, odd_things, other_names, others, plain_cuts,
    plain_reach, put, put_all, state, with_names,
)

WEB = make("a b c d", "ab bc cb cd bd dd ad")
NO_CUTS = [
    (), ("a", "b", "c", "d"), ("a",), ("b", "c"), ("d", "c", "b"), ("c", "b", "d"), ("d", "d"), ("b", "c", "d", "d"),
    ("e",), ("b", "c", "d", "e"), ["d"], ["b", "c", "d"], "d", "bcd", None, 0, True, {"d": True}, {"d"}, (("d",),),
    ("d", None), (None, "d"), (["d"],), ({},), ("d", []), ("d", {}), (b"d",), (0,), ("d", Stubborn()), ("",), ("D",),
    ("d",) * 5000, ("d", "b", "c"),
]


class Cuts(unittest.TestCase):
    def test_is_cut(self):
        for thing in [("d",), ("b", "c", "d")]:
            self.assertIs(is_cut(WEB, thing), True, thing)
        for thing in NO_CUTS + odd_things():
            self.assertIs(is_cut(WEB, thing), False)
            self.assertIs(is_cut(thing=thing, web=WEB), False)

    def test_ties_of(self):
        self.assertEqual(ties_of(WEB, ("d",)), [3, 4, 6])
        self.assertEqual(ties_of(WEB, ("b", "c", "d")), [0, 6])
        self.assertEqual(ties_of(cut=("d",), web=WEB), [3, 4, 6])
        self.assertEqual(ties_of(make("a b c", "ab"), ("c",)), [])

    def test_no_cut(self):
        for thing in NO_CUTS + odd_things():
            with self.assertRaises(NoCut):
                ties_of(WEB, thing)
            with self.assertRaises(NoCut):
                ties_of(web=WEB, cut=thing)

    def test_one_place_has_no_cut(self):
        for web in [make("a", ""), make("a", "aa")]:
            for thing in [(), ("a",), ("b",)]:
                self.assertIs(is_cut(web, thing), False)
            self.assertEqual(all_cuts(web), [])

    def test_all_cuts(self):
        self.assertEqual(all_cuts(WEB), [("b", "c", "d"), ("d",)])
        self.assertEqual(all_cuts(web=make("b a", "")), [("a",), ("b",)])
        self.assertEqual(all_cuts(make("a b c", "ab bc ca")), [])
        self.assertEqual(all_cuts(make("a b c", "ba bc")), [("a",), ("a", "c"), ("c",)])

    def test_all_cuts_of_many_webs(self):
        for web in named_webs() + chance_webs(13, 150, 8, 12):
            told = all_cuts(web)
            self.assertEqual(told, plain_cuts(web))
            for cut in told:
                self.assertIs(is_cut(web, cut), True)
                outside = others(web, cut)
                due = [k for k in range(web.many()) if web.tie(k)[0] in outside and web.tie(k)[1] in cut]
                self.assertEqual(ties_of(web, cut), due)

    def test_cuts_without_ties_are_sums_of_pieces(self):
        for web in all_webs(14):
            for cut in all_cuts(web):
                alone = all((a in cut) == (b in cut) for a, b in web.ties())
                self.assertEqual(ties_of(web, cut) == [], alone)


class Many(unittest.TestCase):
    def test_just_so_many(self):
        told = all_cuts(Web(list("jihgfedcba"), []))
        self.assertEqual(len(told), 1022)
        self.assertEqual(told, sorted(set(told)))
        self.assertEqual(told, plain_cuts(Web(list("abcdefghij"), [])))

    def test_eleven_and_twelve_places(self):
        clumped = Web(list("abcdefghijkl"), [("a", "b"), ("b", "a"), ("c", "d"), ("d", "c"), ("a", "a")])
        self.assertEqual(len(all_cuts(clumped)), 1022)
        line = [(one, other) for one, other in zip("abcdefghijk", "bcdefghijkl")]
        due = sorted(tuple("abcdefghijkl"[at:]) for at in range(1, 12))
        self.assertEqual(all_cuts(Web(list("abcdefghijkl"), line)), due)

    def test_more(self):
        for web in [Web(list("abcdefghijk"), []), Web(list("abcdefghijkl"), []),
                    Web(list("abcdefghijkl"), [("a", other) for other in "bcdefghijkl"])]:
            with self.assertRaises(TooMany):
                all_cuts(web)
            with self.assertRaises(TooMany):
                all_cuts(web=web)

    def test_near_the_bound(self):
        """Webs of up to twelve places with about as many cuts as are told."""
        seen = {True: 0, False: 0}
        for web in chance_webs(15, 60, 12, 9):
            due = plain_cuts(web)
            seen[len(due) > 1022] += 1
            if len(due) > 1022:
                with self.assertRaises(TooMany):
                    all_cuts(web)
            else:
                self.assertEqual(all_cuts(web), due)
        self.assertGreater(min(seen.values()), 0)

    def test_one_more_than_is_told(self):
        star = Web(list("abcdefghijk"), [("a", other) for other in "bcdefghijk"])
        for web in [star, all_turned(star)]:
            self.assertEqual(len(plain_cuts(web)), 1023)
            with self.assertRaises(TooMany):
                all_cuts(web)


class TheWhole(unittest.TestCase):
    def test_all_reach_all_or_a_cut(self):
        for web in all_webs(17):
            far = plain_reach(web.places(), web.ties())
            one_clump = all((a, b) in far for a in web.places() for b in web.places())
            self.assertEqual(all_cuts(web) == [], one_clump)

    def test_ties_that_no_way_leads_back(self):
        for web in all_webs(18):
            far = plain_reach(web.places(), web.ties())
            met = {k for cut in all_cuts(web) for k in ties_of(web, cut)}
            self.assertEqual(met, {k for k, (a, b) in enumerate(web.ties()) if (b, a) not in far})

    def test_a_tie_more(self):
        for web in all_webs(19, 50):
            for one in web.places():
                for other in web.places():
                    more = Web(web.places(), web.ties() + [(one, other)])
                    due = [cut for cut in all_cuts(web) if not (one in cut and other not in cut)]
                    self.assertEqual(all_cuts(more), due)

    def test_other_names(self):
        for web in all_webs(20, 60):
            names = other_names(web)
            named = with_names(web, names)
            self.assertEqual(all_cuts(named), put_all(names, all_cuts(web)))
            for cut in all_cuts(web):
                self.assertEqual(ties_of(named, put(names, cut)), ties_of(web, cut))

    def test_all_ties_turned(self):
        for web in all_webs(21, 60):
            turned = all_turned(web)
            self.assertEqual(all_cuts(turned), sorted(others(web, cut) for cut in all_cuts(web)))
            for cut in all_cuts(web):
                self.assertEqual(ties_of(turned, others(web, cut)), ties_of(web, cut))


class Kept(unittest.TestCase):
    def test_nothing_changes_and_answers_stay_alike(self):
        for web in all_webs(22, 40):
            before = state(web)
            first = all_cuts(web)
            kept = list(first)
            first.append(("z",))
            first.reverse()
            self.assertEqual(all_cuts(web), kept)
            for cut in kept:
                ties = ties_of(web, cut)
                again = list(ties)
                ties.append(-1)
                self.assertEqual(ties_of(web, cut), again)
            self.assertEqual(state(web), before)

    def test_odd_things_stay_as_they_were(self):
        thing = ["d", ["c"]]
        self.assertIs(is_cut(WEB, thing), False)
        self.assertEqual(thing, ["d", ["c"]])


if __name__ == "__main__":
    unittest.main()
