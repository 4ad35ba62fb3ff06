import copy
import unittest

from cutmeet.errors import NoTie, NoWeb
from cutmeet.webs import Web
from samples import Stubborn, odd_things

TWELVE = list("lkjihgfedcba")


class Webs(unittest.TestCase):
    def refuse(self, places, ties):
        with self.assertRaises(NoWeb):
            Web(places, ties)
        with self.assertRaises(NoWeb):
            Web(ties=ties, places=places)

    def test_one_place(self):
        web = Web(["a"], [])
        self.assertEqual((web.places(), web.ties(), web.many()), (["a"], [], 0))

    def test_twelve_places_and_thirty_ties(self):
        ties = [(TWELVE[k % 12], TWELVE[k * 5 % 12]) for k in range(30)]
        web = Web(TWELVE, ties)
        self.assertEqual(web.places(), sorted(TWELVE))
        self.assertEqual(web.ties(), ties)
        self.assertEqual(web.many(), 30)
        self.assertEqual([web.tie(k) for k in range(30)], ties)

    def test_places_rise_and_ties_keep_their_order(self):
        web = Web(["b", "ab", "a", "abcdefgh"], [("b", "a"), ("a", "b"), ("ab", "ab"), ("b", "a")])
        self.assertEqual(web.places(), ["a", "ab", "abcdefgh", "b"])
        self.assertEqual(web.ties(), [("b", "a"), ("a", "b"), ("ab", "ab"), ("b", "a")])
        self.assertEqual(web.tie(k=2), ("ab", "ab"))
        self.assertIsInstance(web.tie(0), tuple)

    def test_many_ties_alike(self):
        self.assertEqual(Web(["a"], [("a", "a")] * 30).many(), 30)

    def test_by_name(self):
        web = Web(ties=[("a", "b")], places=["b", "a"])
        self.assertEqual((web.places(), web.tie(k=0)), (["a", "b"], ("a", "b")))

    def test_places_that_are_none(self):
        for thing in odd_things():
            if thing.__class__ is not list:
                self.refuse(thing, [])
        for places in [[], ("a", "b"), "ab", {"a": 1}, TWELVE + ["m"], ["a"] * 13, ["a", "a"], ["a", "b", "a"],
                       ["a", "abcdefghi"], [""], ["a", "B"], ["a", "1"], ["a", "b\n"], [["a"]], [None], ["a", 0],
                       ["a", True], ["a", b"b"], ["a", {}], ["a", ("b",)], ["a", Stubborn()]]:
            self.refuse(places, [])
        for thing in odd_things():
            self.refuse(["a", "b", thing], [])

    def test_ties_that_are_none(self):
        for thing in odd_things():
            if thing.__class__ is not list:
                self.refuse(["a", "b"], thing)
        for tie in [["a", "b"], ("a",), ("a", "b", "a"), (), "ab", ("a", "c"), ("c", "a"), ("a", None), (None, "a"),
                    (["a"], "b"), ("a", {}), (0, 1), ("a", Stubborn()), (Stubborn(), "a"), ("", "a"), ("A", "b"),
                    {"a": "b"}, ("ab", "a"), ("a", b"b")]:
            self.refuse(["a", "b"], [tie])
            self.refuse(["a", "b"], [("a", "b"), tie])
        for thing in odd_things():
            self.refuse(["a", "b"], [("a", "b"), thing])
            self.refuse(["a", "b"], [("a", thing)])
            self.refuse(["a", "b"], [(thing, "b")])

    def test_thirty_one_ties(self):
        self.assertEqual(Web(["a", "b"], [("a", "b")] * 30).many(), 30)
        self.refuse(["a", "b"], [("a", "b")] * 31)

    def test_no_tie(self):
        web = Web(["a", "b"], [("a", "b"), ("b", "a")])
        for thing in odd_things() + [2, -2, "0", [0], (1,)]:
            with self.assertRaises(NoTie):
                web.tie(thing)
            with self.assertRaises(NoTie):
                web.tie(k=thing)
        for thing in [0, -1, None]:
            with self.assertRaises(NoTie):
                Web(["a"], []).tie(thing)
        self.assertEqual(web.ties(), [("a", "b"), ("b", "a")])

    def test_what_is_handed_in_stays_as_it_was(self):
        places, ties = ["c", "a", "b"], [("c", "a"), ("b", "b")]
        before = copy.deepcopy((places, ties))
        web = Web(places, ties)
        web.places(), web.ties(), web.many(), web.tie(1)
        self.assertEqual((places, ties), before)
        bad = ["c", "a", "a"]
        self.refuse(bad, ties)
        self.assertEqual(bad, ["c", "a", "a"])

    def test_what_is_changed_later_has_no_bearing(self):
        places, ties = ["c", "a", "b"], [("c", "a"), ("b", "b")]
        web = Web(places, ties)
        places[0] = "z"
        places.append("y")
        ties[0] = ("a", "c")
        ties.clear()
        self.assertEqual(web.places(), ["a", "b", "c"])
        self.assertEqual(web.ties(), [("c", "a"), ("b", "b")])
        self.assertEqual((web.many(), web.tie(0)), (2, ("c", "a")))

    def test_lists_told_are_the_askers_own(self):
        web = Web(["b", "a"], [("a", "b")])
        web.places().append("z")
        web.places().clear()
        web.ties()[0] = ("b", "a")
        web.ties().append(("a", "a"))
        self.assertEqual((web.places(), web.ties(), web.many()), (["a", "b"], [("a", "b")], 1))


if __name__ == "__main__":
    unittest.main()
