import unittest

from cutmeet.crossing import cross, entered, join, meet
from cutmeet.cuts import is_cut
from cutmeet.errors import NoCut
from samples import (
    all_turned, all_webs, apart, families, make, named_webs, no_cuts, odd_things, other_names, others, plain_cross,
    plain_cuts, plain_ties, put, state, with_names,
)

# All ties lead from a, one to each other place, and the last one back to b.
STAR = make("a b c d e", "ab ac ad ae ab")
LINE = make("a b c d", "ab bc cd")


def pairs(web):
    cuts = plain_cuts(web)
    return [(cut, other) for cut in cuts for other in cuts]


class Crossing(unittest.TestCase):
    def test_cross(self):
        self.assertIs(cross(STAR, ("b", "c"), ("c", "d")), True)
        self.assertIs(cross(STAR, ("b", "c", "d"), ("c", "d", "e")), True)
        self.assertIs(cross(other=("b", "c"), web=STAR, cut=("b", "d")), True)

    def test_do_not_cross(self):
        within = [(("b",), ("b", "c")), (("b", "c"), ("b",)), (("c", "d"), ("b", "c", "d"))]
        nothing_in_common = [(("b",), ("c",)), (("b", "c"), ("d", "e"))]
        for cut, other in within + nothing_in_common + [(("b",), ("b",)), (("b", "c"), ("b", "c"))]:
            self.assertIs(cross(STAR, cut, other), False)
            self.assertIs(cross(STAR, cut=cut, other=other), False)
        # They have all places between them.
        web = make("a b c", "ab cb")
        self.assertIs(cross(web, ("a", "b"), ("b", "c")), False)
        self.assertIs(cross(make("a b c d", "ab cb ad cd"), ("a", "b", "d"), ("b", "c", "d")), False)

    def test_meet_and_join(self):
        self.assertEqual(meet(STAR, ("b", "c"), ("c", "d")), ("c",))
        self.assertEqual(join(STAR, ("b", "c"), ("c", "d")), ("b", "c", "d"))
        self.assertEqual(meet(other=("b", "e"), cut=("b", "e"), web=STAR), ("b", "e"))
        self.assertEqual(join(other=("b", "e"), cut=("b", "e"), web=STAR), ("b", "e"))

    def test_meet_and_join_of_what_does_not_cross(self):
        self.assertEqual(meet(STAR, ("b",), ("c", "d")), ())
        self.assertEqual(join(STAR, ("d",), ("b", "c")), ("b", "c", "d"))
        web = make("a b c", "ab cb")
        self.assertEqual(meet(web, ("a", "b"), ("b", "c")), ("b",))
        self.assertEqual(join(web, ("a", "b"), ("b", "c")), ("a", "b", "c"))
        self.assertEqual(join(make("a b", ""), ("a",), ("b",)), ("a", "b"))
        self.assertEqual(meet(make("a b", ""), ("a",), ("b",)), ())
        self.assertEqual(meet(LINE, ("b", "c", "d"), ("d",)), ("d",))
        self.assertEqual(join(LINE, ("d",), ("b", "c", "d")), ("b", "c", "d"))

    def test_of_many_webs(self):
        seen = {True: 0, False: 0}
        for web in all_webs(31, 60):
            for cut, other in pairs(web)[:1500]:
                due = plain_cross(web, cut, other)
                seen[due] += 1
                self.assertIs(cross(web, cut, other), due)
                inner, outer = meet(web, cut, other), join(web, cut, other)
                self.assertEqual(inner, tuple(sorted(set(cut) & set(other))))
                self.assertEqual(outer, tuple(sorted(set(cut) | set(other))))
                if due:
                    self.assertIs(is_cut(web, inner), True)
                    self.assertIs(is_cut(web, outer), True)
                    before, after = entered(web, [cut, other]), entered(web, [inner, outer])
                    self.assertEqual(before, after)
        self.assertGreater(min(seen.values()), 500)

    def test_entered(self):
        self.assertEqual(entered(STAR, [("b", "c"), ("b",), ("b",), ("b", "c", "d", "e")]), [4, 2, 1, 1, 4])
        self.assertEqual(entered(family=[("d",), ("b", "c", "d")], web=LINE), [1, 0, 1])
        self.assertEqual(entered(STAR, []), [0] * 5)
        self.assertEqual(entered(make("a", ""), []), [])
        self.assertEqual(entered(make("a b", ""), [("a",), ("b",)]), [])
        self.assertEqual(entered(LINE, [("d",)] * 40), [0, 0, 40])

    def test_entered_of_many_families(self):
        for web in all_webs(32, 60):
            for family in families(web, 33, 6, 30):
                due = [sum(k in plain_ties(web, cut) for cut in family) for k in range(web.many())]
                self.assertEqual(entered(web, family), due)


class Refused(unittest.TestCase):
    def test_no_cut_at_either(self):
        for thing in no_cuts() + odd_things() + [("a",), ("b", "c", "a")]:
            for ask in [cross, meet, join]:
                for cut, other in [(thing, ("b",)), (("b",), thing), (thing, thing)]:
                    with self.assertRaises(NoCut):
                        ask(STAR, cut, other)
                    with self.assertRaises(NoCut):
                        ask(web=STAR, cut=cut, other=other)

    def test_no_cut_anywhere_in_a_family(self):
        for thing in no_cuts() + odd_things() + [("a",)]:
            for at in range(4):
                family = [("b",), ("c", "d"), ("b",)]
                family.insert(at, thing)
                with self.assertRaises(NoCut):
                    entered(STAR, family)
                with self.assertRaises(NoCut):
                    entered(family=family, web=STAR)
        with self.assertRaises(NoCut):
            entered(make("a", "aa"), [("a",)])

    def test_webs_that_do_not_hang_are_not_refused(self):
        for web in apart():
            for cut, other in pairs(web):
                self.assertIs(cross(web, cut, other), plain_cross(web, cut, other))


class TheWhole(unittest.TestCase):
    def test_other_names(self):
        for web in all_webs(34, 30):
            names = other_names(web)
            named = with_names(web, names)
            for cut, other in pairs(web)[:200]:
                one, two = put(names, cut), put(names, other)
                self.assertEqual(cross(named, one, two), cross(web, cut, other))
                self.assertEqual(meet(named, one, two), put(names, meet(web, cut, other)))
                self.assertEqual(join(named, one, two), put(names, join(web, cut, other)))

    def test_all_ties_turned(self):
        for web in all_webs(35, 30):
            turned = all_turned(web)
            for cut, other in pairs(web)[:200]:
                one, two = others(web, cut), others(web, other)
                self.assertEqual(cross(turned, one, two), cross(web, cut, other))
                self.assertEqual(join(turned, one, two), others(web, meet(web, cut, other)))
                self.assertEqual(meet(turned, one, two), others(web, join(web, cut, other)))


class Kept(unittest.TestCase):
    def test_nothing_changes_and_answers_stay_alike(self):
        for web in named_webs():
            before = state(web)
            for family in families(web, 36, 5):
                kept = list(family)
                told = entered(web, family)
                again = list(told)
                told.append(7)
                self.assertEqual(entered(web, family), again)
                self.assertEqual(family, kept)
            self.assertEqual(state(web), before)


if __name__ == "__main__":
    unittest.main()
