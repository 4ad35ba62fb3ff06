import unittest

from cutmeet.cuts import is_cut
from cutmeet.errors import Apart, NoTie
from cutmeet.meeters import is_meeter, missed
from cutmeet.ways import all_reach
from cutmeet.webs import Web
from samples import (
    all_lists, all_turned, apart, both_ways, classes, hanging_webs, make, not_ties, other_names, plain_cuts,
    plain_meets, plain_reach, plain_ties, state, with_names,
)

LINE = make("a b c d", "ab bc cd")
WEB = make("a b c d", "ab ac bd cd bb")


class Meeters(unittest.TestCase):
    def test_is_meeter(self):
        self.assertIs(is_meeter(LINE, [0, 1, 2]), True)
        for ties in [[], [0], [2], [0, 1], [0, 2], [1, 2]]:
            self.assertIs(is_meeter(LINE, ties), False)
            self.assertIs(is_meeter(ties=ties, web=LINE), False)
        for ties in [[0, 2], [1, 3], [0, 1, 2, 3], [0, 1, 2, 3, 4], [0, 2, 4]]:
            self.assertIs(is_meeter(WEB, ties), True)
        for ties in [[0, 1], [2, 3], [0, 3], [1, 2], [0], [4], []]:
            self.assertIs(is_meeter(WEB, ties), False)

    def test_missed(self):
        self.assertEqual(missed(LINE, [0, 1]), ("d",))
        self.assertEqual(missed(LINE, [1, 2]), ("b", "c", "d"))
        self.assertEqual(missed(ties=[0, 2], web=LINE), ("c", "d"))
        self.assertIsNone(missed(LINE, [0, 1, 2]))
        self.assertIsNone(missed(WEB, [0, 2]))

    def test_where_there_is_no_cut(self):
        for web in [make("a", ""), make("a", "aa aa"), make("a b", "ab ba"), make("a b c", "ab bc ca")]:
            for ties in all_lists(web.many()):
                self.assertIs(is_meeter(web, ties), True)
                self.assertIsNone(missed(web, ties))

    def test_all_lists_of_many_webs(self):
        seen = {True: 0, False: 0}
        for web in hanging_webs(48, 120, 6, 8):
            cuts = plain_cuts(web)
            held = [plain_ties(web, cut) for cut in cuts]
            for ties in all_lists(web.many()):
                due = plain_meets(held, ties)
                seen[due] += 1
                self.assertIs(is_meeter(web, ties), due)
                told = missed(web, ties)
                if due:
                    self.assertIsNone(told)
                else:
                    self.assertIs(is_cut(web, told), True)
                    self.assertEqual([k for k in plain_ties(web, told) if k in ties], [])
        self.assertGreater(min(seen.values()), 500)

    def test_ways_tell_it_too(self):
        for web in hanging_webs(49, 60, 6, 8):
            for ties in all_lists(web.many()):
                both = web.ties() + [web.tie(k)[::-1] for k in ties]
                self.assertIs(is_meeter(web, ties), all_reach(Web(web.places(), both)))

    def test_twelve_places(self):
        ladder = Web(list("abcdefghijkl"), [(one, other) for one, other in zip("abcdefghijk", "bcdefghijkl")] * 2)
        self.assertIs(is_meeter(ladder, list(range(22))), True)
        self.assertIs(is_meeter(ladder, list(range(11))), True)
        self.assertIs(is_meeter(ladder, list(range(5, 16))), True)
        self.assertEqual(missed(ladder, list(range(10))), ("l",))


class Refused(unittest.TestCase):
    def test_no_tie(self):
        for web in [LINE, WEB, make("a b", "ab ba ab")]:
            for thing in not_ties(web.many()):
                for ask in [is_meeter, missed]:
                    with self.assertRaises(NoTie):
                        ask(web, thing)
                    with self.assertRaises(NoTie):
                        ask(web=web, ties=thing)
        with self.assertRaises(NoTie):
            is_meeter(make("a", ""), [0])

    def test_apart_ahead_of_no_tie(self):
        for web in apart():
            for thing in all_lists(web.many()) + not_ties(web.many()):
                for ask in [is_meeter, missed]:
                    with self.assertRaises(Apart) as taken:
                        ask(web, thing)
                    self.assertIs(is_cut(web, taken.exception.cut), True)
                    self.assertEqual(plain_ties(web, taken.exception.cut), [])
                    with self.assertRaises(Apart):
                        ask(ties=thing, web=web)


class TheWhole(unittest.TestCase):
    def test_other_names_and_all_ties_turned(self):
        for web in hanging_webs(50, 30, 5, 7):
            for other in [with_names(web, other_names(web)), all_turned(web)]:
                for ties in all_lists(web.many()):
                    self.assertIs(is_meeter(other, ties), is_meeter(web, ties))

    def test_drawn_together(self):
        """Ties meet every cut just where, drawn together by them, all places reach all."""
        for web in hanging_webs(51, 30, 5, 7):
            for ties in all_lists(web.many()):
                joined = both_ways([web.tie(k) for k in ties])
                bundles = classes(web.places(), plain_reach(web.places(), joined))
                name = {place: bundle[0] for bundle in bundles for place in bundle}
                drawn = Web(sorted(set(name.values())), [(name[a], name[b]) for a, b in web.ties()])
                self.assertIs(is_meeter(web, ties), all_reach(drawn))


class Kept(unittest.TestCase):
    def test_nothing_changes_and_answers_stay_alike(self):
        for web in hanging_webs(52, 20, 5, 7):
            before = state(web)
            for ties in all_lists(web.many()):
                kept = list(ties)
                told = (is_meeter(web, ties), missed(web, ties))
                self.assertEqual(ties, kept)
                self.assertEqual((is_meeter(web, ties), missed(web, ties)), told)
            self.assertEqual(state(web), before)


if __name__ == "__main__":
    unittest.main()
