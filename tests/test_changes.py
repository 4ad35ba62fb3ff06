import itertools
import random
import unittest

from cutmeet.changes import joined, renamed, with_tie, without_tie
from cutmeet.errors import NoNames, NoPlace, NoTie, NoWeb
from cutmeet.papers import is_paper, paper
from cutmeet.rounds import how_few
from cutmeet.webs import Web
from samples import (
    Stubborn, all_webs, endless, hanging_webs, make, odd_things, other_names, plain_cuts, put_all, state, with_names,
)

LINE = make("a b c", "ab bc")
FULL = Web(["a", "b", "c"], [("a", "b")] * 30)


class WithTie(unittest.TestCase):
    def test_some(self):
        self.assertEqual(state(with_tie(LINE, "c", "a")), state(make("a b c", "ab bc ca")))
        self.assertEqual(state(with_tie(other="a", one="b", web=LINE)), state(make("a b c", "ab bc ba")))
        self.assertEqual(state(with_tie(make("a", ""), "a", "a")), state(make("a", "aa")))
        last = Web(["a", "b"], [("a", "b")] * 29)
        self.assertEqual(with_tie(last, "b", "a").ties(), [("a", "b")] * 29 + [("b", "a")])

    def test_the_cuts(self):
        for web in all_webs(190, 60):
            cuts = plain_cuts(web)
            for one, other in itertools.product(web.places(), repeat=2):
                told = with_tie(web, one, other)
                self.assertEqual(told.ties(), web.ties() + [(one, other)])
                self.assertEqual(plain_cuts(told), [cut for cut in cuts if one not in cut or other in cut])

    def test_no_place(self):
        for web in [LINE, FULL]:
            for thing in odd_things() + ["d", "ab", ("a",), ["a"], "a ", 0]:
                for ask in [lambda: with_tie(web, thing, "a"), lambda: with_tie(web, "a", thing),
                            lambda: with_tie(web, thing, thing), lambda: with_tie(web=web, other=thing, one="a")]:
                    with self.assertRaises(NoPlace):
                        ask()

    def test_a_thirty_first_tie(self):
        for one, other in itertools.product("abc", repeat=2):
            with self.assertRaises(NoWeb):
                with_tie(FULL, one, other)


class WithoutTie(unittest.TestCase):
    def test_some(self):
        self.assertEqual(state(without_tie(LINE, 0)), state(make("a b c", "bc")))
        self.assertEqual(state(without_tie(k=1, web=LINE)), state(make("a b c", "ab")))
        self.assertEqual(without_tie(FULL, 29).many(), 29)

    def test_the_cuts(self):
        for web in all_webs(191, 60):
            cuts = plain_cuts(web)
            for k in range(web.many()):
                told = without_tie(web, k)
                self.assertEqual(told.places(), web.places())
                self.assertEqual(told.ties(), [tie for at, tie in enumerate(web.ties()) if at != k])
                self.assertLessEqual(set(cuts), set(plain_cuts(told)))

    def test_with_and_without(self):
        for web in all_webs(192, 40):
            more = with_tie(web, web.places()[0], web.places()[-1])
            self.assertEqual(state(without_tie(more, web.many())), state(web))

    def test_no_tie(self):
        for web in [LINE, make("a", ""), make("a b", "")]:
            for thing in odd_things() + [web.many(), 30, "0", [0], (0,)]:
                with self.assertRaises(NoTie):
                    without_tie(web, thing)
                with self.assertRaises(NoTie):
                    without_tie(k=thing, web=web)


class Renamed(unittest.TestCase):
    def test_some(self):
        told = renamed(LINE, {"a": "x", "b": "y", "c": "longname"})
        self.assertEqual((told.places(), told.ties()), (["longname", "x", "y"], [("x", "y"), ("y", "longname")]))
        # Names that are among the web's own places, each in another's stead.
        told = renamed(names={"c": "a", "a": "b", "b": "c"}, web=LINE)
        self.assertEqual(state(told), state(make("a b c", "bc ca")))
        self.assertEqual(state(renamed(LINE, {"a": "a", "b": "b", "c": "c"})), state(LINE))
        self.assertEqual(state(renamed(LINE, {"a": "c", "b": "b", "c": "a"})), state(make("a b c", "cb ba")))

    def test_of_many(self):
        chance = random.Random(193)
        for web in all_webs(194, 60):
            for names in [other_names(web), dict(zip(web.places(), chance.sample(web.places(), len(web.places()))))]:
                told = renamed(web, names)
                self.assertEqual(state(told), state(with_names(web, names)))
                self.assertEqual(plain_cuts(told), put_all(names, plain_cuts(web)))
                back = {name: place for place, name in names.items()}
                self.assertEqual(state(renamed(told, back)), state(web))

    def test_twelve_places(self):
        places = list("abcdefghijkl")
        web = Web(places, [(place, "a") for place in places])
        told = renamed(web, {place: "z" + place for place in places})
        self.assertEqual(told.ties(), [("z" + place, "za") for place in places])

    def test_no_names_of_anything(self):
        good = {"a": "x", "b": "y", "c": "z"}
        renamed(LINE, good)
        things = [
            {}, {"a": "x"}, {"a": "x", "b": "y"}, {"a": "x", "b": "y", "d": "z"}, {**good, "d": "w"}, {**good, "x": "a"},
            {"a": "x", "b": "y", "c": "y"}, {"a": "x", "b": "x", "c": "x"}, {"a": "b", "b": "a", "c": "a"},
            {"x": "a", "y": "b", "z": "c"}, {**good, None: "w"}, {**good, 0: "w"}, {"a": "x", "b": "y", 2: "z"},
            {"a": "x", "b": "y", None: "z"}, {"a": "x", "b": "y", ("c",): "z"}, {"a": "x", "b": "y", b"c": "z"},
            {"a": "x", "b": "y", object(): "z"}, {"a": "x", "b": "y", "C": "z"}, {"a": "x", "b": "y", "": "z"},
            [("a", "x"), ("b", "y"), ("c", "z")], (("a", "x"), ("b", "y"), ("c", "z")), ["x", "y", "z"], ("x", "y", "z"),
            "xyz", "abc", good.items(), good.keys(), iter(good), {"a", "b", "c"}, {("a", "x"), ("b", "y"), ("c", "z")},
            None, True, 3, len, Stubborn(), endless(),
        ]
        for name in odd_things() + ["A", "y1", "y z", "ninesigns", "", None, 0, b"z", ["z"], ("z",), {"z": 1}]:
            things.append({"a": "x", "b": "y", "c": name})
            things.append({"a": name, "b": "y", "c": "z"})
        for thing in things + odd_things():
            with self.assertRaises(NoNames):
                renamed(LINE, thing)
            with self.assertRaises(NoNames):
                renamed(names=thing, web=LINE)
        for thing in odd_things() + [{}, {"b": "a"}, {"a": "b", "b": "c"}]:
            if repr(thing) != "{'a': 'b'}":
                with self.assertRaises(NoNames):
                    renamed(make("a", "aa"), thing)


class Joined(unittest.TestCase):
    def test_some(self):
        other = make("c d", "dc cd dd")
        self.assertEqual(state(joined(LINE, other)), state(make("a b c d", "ab bc dc cd dd")))
        self.assertEqual(state(joined(other=LINE, web=other)), state(make("a b c d", "dc cd dd ab bc")))
        self.assertEqual(state(joined(make("a", "aa"), make("a", "aa"))), state(make("a", "aa aa")))
        self.assertEqual(state(joined(make("a", ""), LINE)), state(LINE))

    def test_another_number_of_places_in_common(self):
        for other in [make("d", ""), make("d e", "de"), make("a b", "ab"), make("b c d", ""), LINE, make("c b a", "")]:
            for ask in [lambda: joined(LINE, other), lambda: joined(other, LINE), lambda: joined(other=other, web=LINE)]:
                with self.assertRaises(NoWeb):
                    ask()

    def test_as_large_as_can_be(self):
        many, few = list("abcdefg"), list("ghijkl")
        told = joined(Web(many, [("a", "b")] * 20), Web(few, [("g", "h")] * 10))
        self.assertEqual((told.places(), told.many()), (list("abcdefghijkl"), 30))
        for web, other in [
            (Web(many, []), Web(few + ["m"], [])), (Web(many, [("a", "b")] * 20), Web(few, [("g", "h")] * 11)),
            (Web(list("abcdefghijkl"), []), Web(["l", "m"], [])), (Web(["a"], [("a", "a")] * 30), Web(["a"], [("a", "a")])),
            (Web(many, [("a", "b")] * 30), Web(few + ["m"], [("g", "h")] * 30)),
        ]:
            for ask in [lambda: joined(web, other), lambda: joined(other, web)]:
                with self.assertRaises(NoWeb):
                    ask()

    def pairs(self, seed, many):
        """Webs that hang, two by two, with one place in common."""
        chance = random.Random(seed)
        webs = hanging_webs(seed, many, 6, 10)
        for web in webs:
            other = chance.choice(webs)
            names = dict(zip(other.places(), ["q", "r", "s", "t", "u", "v"]))
            names[chance.choice(other.places())] = chance.choice(web.places())
            yield (web, with_names(other, names))

    def test_the_fewest_ties_add_up(self):
        for web, other in self.pairs(195, 60):
            told = joined(web, other)
            self.assertEqual(told.ties(), web.ties() + other.ties())
            self.assertEqual(told.places(), sorted(set(web.places()) | set(other.places())))
            self.assertEqual(how_few(told), how_few(web) + how_few(other))
            ties, cuts = paper(told)
            self.assertIs(is_paper(told, (ties, cuts)), True)
            self.assertEqual(len(cuts), len(paper(web)[1]) + len(paper(other)[1]))


class Kept(unittest.TestCase):
    def test_nothing_changes(self):
        before = state(LINE)
        names = {"a": "x", "b": "y", "c": "z"}
        kept = dict(names)
        other = make("c d", "cd")
        told = [with_tie(LINE, "c", "a"), without_tie(LINE, 0), renamed(LINE, names), joined(LINE, other)]
        self.assertEqual(names, kept)
        was = [state(web) for web in told]
        names["a"] = "q"
        names.clear()
        for web in told:
            web.ties().clear()
            web.places().clear()
        self.assertEqual([state(web) for web in told], was)
        self.assertEqual((state(LINE), state(other)), (before, state(make("c d", "cd"))))
        again = [with_tie(LINE, "c", "a"), without_tie(LINE, 0), renamed(LINE, kept), joined(LINE, other)]
        self.assertEqual([state(web) for web in again], was)


if __name__ == "__main__":
    unittest.main()
