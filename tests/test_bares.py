import unittest

from cutmeet.bares import is_bare, parted
from cutmeet.cuts import all_cuts, is_cut, ties_of
from cutmeet.errors import Apart, NoCut
from samples import (
    Stubborn, all_turned, all_webs, apart, chance_webs, hanging, make, named_webs, odd_things, other_names, others,
    plain_pieces, put, put_all, state, with_names,
)

# Ties lead from the even ones of a path of places to the odd ones at their sides.
ZIGZAG = make("a b c d e", "ab cb cd ed")
NO_CUTS = [
    (), ("a",), ("a", "b", "c", "d", "e"), ("d", "b"), ("b", "b"), ["b"], "b", None, 0, True, ("z",), ("b", None),
    ("b", []), ({},), (("b",),), ("b", Stubborn()), {"b": True},
]


class Bares(unittest.TestCase):
    def test_is_bare(self):
        self.assertIs(is_bare(make("a b", "ab"), ("b",)), True)
        self.assertIs(is_bare(ZIGZAG, ("b",)), False)
        self.assertIs(is_bare(ZIGZAG, ("a", "b")), True)
        self.assertIs(is_bare(ZIGZAG, ("b", "d")), False)
        self.assertIs(is_bare(ZIGZAG, ("b", "c", "d")), False)
        self.assertIs(is_bare(ZIGZAG, ("a", "b", "c", "d")), True)
        self.assertIs(is_bare(cut=("d", "e"), web=ZIGZAG), True)
        # Its places are in several pieces, the others hang.
        self.assertIs(is_bare(make("a b c", "ba bc"), ("a", "c")), False)

    def test_ways_of_the_other_side_do_not_count(self):
        web = make("a b c d", "ab ac db dc ad")
        self.assertIs(is_bare(web, ("b", "c")), False)
        self.assertEqual(parted(web, ("b", "c")), [("b",), ("c",)])

    def test_parted(self):
        self.assertEqual(parted(make("a b", "ab"), ("b",)), [("b",)])
        self.assertEqual(parted(make("a b c", "ba bc"), ("a", "c")), [("a",), ("c",)])
        self.assertEqual(parted(ZIGZAG, ("b",)), [("a", "b"), ("b", "c", "d", "e")])
        self.assertEqual(
            parted(cut=("b", "d"), web=ZIGZAG),
            [("a", "b"), ("a", "b", "c", "d"), ("b", "c", "d", "e"), ("d", "e")],
        )

    def test_of_many_webs(self):
        seen = {True: 0, False: 0}
        for web in hanging(named_webs() + chance_webs(27, 200, 8, 12)):
            for cut in all_cuts(web):
                bare = len(plain_pieces(web, cut)) == 1 and len(plain_pieces(web, others(web, cut))) == 1
                seen[bare] += 1
                self.assertIs(is_bare(web, cut), bare)
                parts = parted(web, cut)
                self.check_parts(web, cut, parts)
                self.assertEqual(parts == [cut], bare)
        self.assertGreater(min(seen.values()), 50)

    def check_parts(self, web, cut, parts):
        self.assertIsInstance(parts, list)
        self.assertEqual(parts, sorted(set(parts)))
        for part in parts:
            self.assertIs(is_cut(web, part), True)
            self.assertIs(is_bare(web, part), True)
            self.assertEqual(parted(web, part), [part])
        self.assertEqual(sorted(k for part in parts for k in ties_of(web, part)), ties_of(web, cut))
        due = [others(web, outer) for inner in plain_pieces(web, cut)
               for outer in plain_pieces(web, others(web, inner))]
        self.assertEqual(parts, sorted(due))

    def test_apart_ahead_of_no_cut(self):
        for web in apart():
            for thing in all_cuts(web) + NO_CUTS + odd_things():
                for ask in [is_bare, parted]:
                    with self.assertRaises(Apart) as taken:
                        ask(web, thing)
                    self.assertEqual(ties_of(web, taken.exception.cut), [])
                    with self.assertRaises(Apart):
                        ask(web=web, cut=thing)

    def test_no_cut(self):
        for thing in NO_CUTS + odd_things():
            for ask in [is_bare, parted]:
                with self.assertRaises(NoCut):
                    ask(ZIGZAG, thing)
                with self.assertRaises(NoCut):
                    ask(cut=thing, web=ZIGZAG)
        for ask in [is_bare, parted]:
            with self.assertRaises(NoCut):
                ask(make("a", "aa"), ("a",))


class TheWhole(unittest.TestCase):
    def test_other_names(self):
        for web in hanging(all_webs(28, 100)):
            names = other_names(web)
            named = with_names(web, names)
            for cut in all_cuts(web):
                self.assertEqual(is_bare(named, put(names, cut)), is_bare(web, cut))
                self.assertEqual(parted(named, put(names, cut)), put_all(names, parted(web, cut)))

    def test_all_ties_turned(self):
        for web in hanging(all_webs(29, 100)):
            turned = all_turned(web)
            for cut in all_cuts(web):
                self.assertEqual(is_bare(turned, others(web, cut)), is_bare(web, cut))


class Kept(unittest.TestCase):
    def test_nothing_changes_and_answers_stay_alike(self):
        for web in hanging(all_webs(30, 60)):
            before = state(web)
            for cut in all_cuts(web):
                first = parted(web, cut)
                kept = list(first)
                first.append(("z",))
                first.reverse()
                self.assertEqual(parted(web, cut), kept)
            self.assertEqual(state(web), before)

    def test_the_same_refusal_again(self):
        for web in apart():
            told = []
            for each in range(2):
                with self.assertRaises(Apart) as taken:
                    parted(web, ("a",))
                told.append(taken.exception.cut)
            self.assertEqual(told[0], told[1])


if __name__ == "__main__":
    unittest.main()
