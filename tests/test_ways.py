import unittest

from cutmeet.errors import NoPlace
from cutmeet.ways import all_reach, clumps, hangs, pieces, reached, way
from cutmeet.webs import Web
from samples import (
    all_turned, all_webs, both_ways, classes, make, odd_things, other_names, plain_reach, put_all, state, with_names,
)


class Ways(unittest.TestCase):
    def check_way(self, web, one, other, told):
        at = one
        for k in told:
            self.assertEqual(web.tie(k)[0], at)
            at = web.tie(k)[1]
        self.assertEqual(at, other)

    def test_reached(self):
        web = make("d a c b", "ab ba bc cc")
        self.assertEqual(reached(web, "a"), ["a", "b", "c"])
        self.assertEqual(reached(web, "b"), ["a", "b", "c"])
        self.assertEqual(reached(web, "c"), ["c"])
        self.assertEqual(reached(web, "d"), ["d"])
        self.assertEqual(reached(place="d", web=web), ["d"])

    def test_way(self):
        web = make("a b c d", "ab bc ab ca cd ad dd ba")
        self.assertEqual(way(web, "b", "d"), [1, 4])
        self.assertEqual(way(web, "a", "d"), [5])
        self.assertIn(way(web, "a", "b"), [[0], [2]])
        self.assertEqual(way(web, "d", "d"), [])
        self.assertIsNone(way(web, "d", "a"))
        self.assertEqual(way(other="c", one="b", web=web), [1])

    def test_a_long_way(self):
        web = make("a b c d e f g h i j k l", "kl jk ij hi gh fg ef de cd bc ab")
        self.assertEqual(way(web, "a", "l"), list(range(10, -1, -1)))
        self.assertIsNone(way(web, "l", "a"))

    def test_a_short_way_behind_a_long_one(self):
        web = make("a b c d e", "ab bc cd de ac ce")
        self.assertEqual(way(web, "a", "e"), [4, 5])

    def test_reached_and_way_of_many_webs(self):
        for web in all_webs():
            far = plain_reach(web.places(), web.ties())
            for one in web.places():
                self.assertEqual(reached(web, one), [other for other in web.places() if (one, other) in far])
                for other in web.places():
                    told = way(web, one, other)
                    if (one, other) in far:
                        self.assertEqual(len(told), far[one, other])
                        self.check_way(web, one, other, told)
                    else:
                        self.assertIsNone(told)

    def test_no_place(self):
        web = make("a b", "ab")
        for thing in odd_things() + ["c", "ab", "nowhere", 0, ("a",), ["a", "b"]]:
            with self.assertRaises(NoPlace):
                reached(web, thing)
            with self.assertRaises(NoPlace):
                way(web, thing, "a")
            with self.assertRaises(NoPlace):
                way(web, "a", thing)
            with self.assertRaises(NoPlace):
                way(web, thing, thing)
            with self.assertRaises(NoPlace):
                way(web=web, one="b", other=thing)


class ClumpsAndPieces(unittest.TestCase):
    def check(self, web, clumps_due, pieces_due):
        self.assertEqual(clumps(web), clumps_due)
        self.assertEqual(pieces(web), pieces_due)
        self.assertIs(all_reach(web), len(clumps_due) == 1)
        self.assertIs(hangs(web), len(pieces_due) == 1)

    def test_one_place(self):
        self.check(make("a", ""), [("a",)], [("a",)])
        self.check(make("a", "aa"), [("a",)], [("a",)])

    def test_several_pieces(self):
        self.check(make("b a", ""), [("a",), ("b",)], [("a",), ("b",)])
        self.check(make("a d c b", "ca ac db"), [("a", "c"), ("b",), ("d",)], [("a", "c"), ("b", "d")])

    def test_one_piece_with_several_clumps(self):
        self.check(make("c b a", "ab cb"), [("a",), ("b",), ("c",)], [("a", "b", "c")])
        self.check(make("d a c b", "ad da bd cb bc"), [("a", "d"), ("b", "c")], [("a", "b", "c", "d")])

    def test_one_clump(self):
        self.check(make("c b a", "ab bc ca"), [("a", "b", "c")], [("a", "b", "c")])

    def test_of_many_webs(self):
        for web in all_webs(2):
            places = web.places()
            self.check(
                web,
                classes(places, plain_reach(places, web.ties())),
                classes(places, plain_reach(places, both_ways(web.ties()))),
            )

    def test_by_name(self):
        web = make("a b", "ab")
        self.assertEqual(clumps(web=web), [("a",), ("b",)])
        self.assertEqual(pieces(web=web), [("a", "b")])
        self.assertIs(hangs(web=web), True)
        self.assertIs(all_reach(web=web), False)


class Kept(unittest.TestCase):
    def test_nothing_changes_and_answers_stay_alike(self):
        for web in all_webs(3, 30):
            before = state(web)
            for one in web.places():
                for ask in [lambda: reached(web, one), lambda: way(web, one, web.places()[-1]),
                            lambda: clumps(web), lambda: pieces(web)]:
                    first = ask()
                    kept = None if first is None else list(first)
                    if first is not None:
                        first.append("z")
                        first.reverse()
                    self.assertEqual(ask(), kept)
            self.assertEqual(state(web), before)

    def test_lists_changed_behind_the_call(self):
        places, ties = ["a", "b", "c"], [("a", "b"), ("b", "c")]
        web = Web(places, ties)
        ties[1] = ("c", "b")
        places.clear()
        self.assertEqual(reached(web, "a"), ["a", "b", "c"])
        self.assertEqual(way(web, "a", "c"), [0, 1])
        self.assertEqual(clumps(web), [("a",), ("b",), ("c",)])


class TheWhole(unittest.TestCase):
    def test_other_names(self):
        for web in all_webs(4, 60):
            names = other_names(web)
            named = with_names(web, names)
            for one in web.places():
                self.assertEqual(reached(named, names[one]), sorted(names[place] for place in reached(web, one)))
                for other in web.places():
                    told, again = way(web, one, other), way(named, names[one], names[other])
                    self.assertEqual(told is None, again is None)
                    self.assertEqual(len(told or []), len(again or []))
            self.assertEqual(clumps(named), put_all(names, clumps(web)))
            self.assertEqual(pieces(named), put_all(names, pieces(web)))

    def test_all_ties_turned(self):
        for web in all_webs(5, 60):
            turned = all_turned(web)
            self.assertEqual(clumps(turned), clumps(web))
            self.assertEqual(pieces(turned), pieces(web))
            for one in web.places():
                for other in web.places():
                    self.assertEqual(other in reached(web, one), one in reached(turned, other))
                    self.assertEqual(len(way(web, one, other) or []), len(way(turned, other, one) or []))


if __name__ == "__main__":
    unittest.main()
