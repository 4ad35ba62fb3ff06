import unittest

from cutmeet.cuts import is_cut, ties_of
from cutmeet.errors import NoPlace, NoTie
from cutmeet.leasts import greatest, least, least_of
from samples import (
    all_turned, all_webs, make, odd_things, other_names, others, plain_cuts, put, state, with_names,
)

WEB = make("a b c d e", "ab bc cb ad")


class Leasts(unittest.TestCase):
    def test_least(self):
        self.assertEqual(least(WEB, "b", "a"), ("b", "c"))
        self.assertEqual(least(WEB, "a", "e"), ("a", "b", "c", "d"))
        self.assertEqual(least(WEB, "e", "a"), ("e",))
        self.assertIsNone(least(WEB, "a", "b"))
        self.assertIsNone(least(WEB, "b", "c"))
        self.assertIsNone(least(WEB, "d", "d"))
        self.assertEqual(least(other="c", one="d", web=WEB), ("d",))

    def test_greatest(self):
        self.assertEqual(greatest(WEB, "b", "a"), ("b", "c", "d", "e"))
        self.assertEqual(greatest(WEB, "d", "c"), ("d", "e"))
        self.assertEqual(greatest(WEB, "e", "d"), ("b", "c", "e"))
        self.assertIsNone(greatest(WEB, "a", "b"))
        self.assertIsNone(greatest(WEB, "b", "c"))
        self.assertIsNone(greatest(WEB, "e", "e"))
        self.assertEqual(greatest(other="c", one="d", web=WEB), ("d", "e"))

    def test_least_of(self):
        self.assertEqual(least_of(WEB, 0), ("b", "c"))
        self.assertIsNone(least_of(WEB, 1))
        self.assertIsNone(least_of(WEB, 2))
        self.assertEqual(least_of(k=3, web=WEB), ("d",))
        self.assertIsNone(least_of(make("a b", "ab bb"), 1))

    def test_of_many_webs(self):
        for web in all_webs(23):
            cuts = plain_cuts(web)
            for one in web.places():
                for other in web.places():
                    such = [cut for cut in cuts if one in cut and other not in cut]
                    low, high = least(web, one, other), greatest(web, one, other)
                    if not such:
                        self.assertEqual((low, high), (None, None))
                        continue
                    self.assertIn(low, such)
                    self.assertIn(high, such)
                    for cut in such:
                        self.assertLessEqual(set(low), set(cut))
                        self.assertLessEqual(set(cut), set(high))

    def test_least_of_many_webs(self):
        for web in all_webs(24):
            cuts = plain_cuts(web)
            for k, (a, b) in enumerate(web.ties()):
                such = [cut for cut in cuts if b in cut and a not in cut]
                told = least_of(web, k)
                if such:
                    self.assertIs(is_cut(web, told), True)
                    self.assertIn(k, ties_of(web, told))
                    self.assertEqual(set(told), set.intersection(*[set(cut) for cut in such]))
                else:
                    self.assertIsNone(told)

    def test_no_place(self):
        for thing in odd_things() + ["f", "ab", "nowhere", 0, ("b",), ["b"]]:
            for ask in [least, greatest]:
                for one, other in [(thing, "a"), ("a", thing), (thing, "b"), ("b", thing), (thing, thing)]:
                    with self.assertRaises(NoPlace):
                        ask(WEB, one, other)
                with self.assertRaises(NoPlace):
                    ask(web=WEB, one="b", other=thing)

    def test_no_tie(self):
        for thing in odd_things() + [4, -4, "0", [0], (0,)]:
            with self.assertRaises(NoTie):
                least_of(WEB, thing)
            with self.assertRaises(NoTie):
                least_of(web=WEB, k=thing)


class TheWhole(unittest.TestCase):
    def test_other_names(self):
        for web in all_webs(25, 40):
            names = other_names(web)
            named = with_names(web, names)
            for one in web.places():
                for other in web.places():
                    for ask in [least, greatest]:
                        told = ask(web, one, other)
                        due = None if told is None else put(names, told)
                        self.assertEqual(ask(named, names[one], names[other]), due)
            for k in range(web.many()):
                told = least_of(web, k)
                self.assertEqual(least_of(named, k), None if told is None else put(names, told))

    def test_all_ties_turned(self):
        for web in all_webs(26, 40):
            turned = all_turned(web)
            for one in web.places():
                for other in web.places():
                    told = least(web, one, other)
                    self.assertEqual(greatest(turned, other, one), None if told is None else others(web, told))


class Kept(unittest.TestCase):
    def test_nothing_changes_and_answers_stay_alike(self):
        before = state(WEB)
        for ask in [least, greatest]:
            told = [ask(WEB, one, other) for one in "abcde" for other in "abcde"]
            self.assertEqual([ask(WEB, one, other) for one in "abcde" for other in "abcde"], told)
        self.assertEqual(state(WEB), before)


if __name__ == "__main__":
    unittest.main()
