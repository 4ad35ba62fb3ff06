import random
import unittest

from cutmeet.cuts import is_cut
from cutmeet.errors import Apart, NoMeeter, NoPlace, NoTie
from cutmeet.tights import exchanges, goes_over, tight_of, wanted
from samples import (
    Refusals, all_turned, apart, hanging_webs, large_webs, lean_list, make, not_ties, odd_things, other_names,
    plain_meeters, plain_tights, plain_ties, put, state, with_names,
)

LINE = make("a b c d", "ab bc cd")
# Two ways from a to d.
ROUND = make("a b c d", "ab bd ac cd")


def meeters_of_many(seed, many=70):
    return [(web, ties) for web in hanging_webs(seed, many, 6, 7) for ties in plain_meeters(web)]


class Tights(unittest.TestCase):
    def test_wanted(self):
        self.assertEqual(wanted(LINE, [0, 1, 2]), [0, 1, 2])
        self.assertEqual(wanted(ROUND, [0, 1, 2, 3]), [])
        self.assertEqual(wanted(ROUND, [0, 1, 2]), [0, 1])
        self.assertEqual(wanted(ties=[2, 3], web=ROUND), [2, 3])
        self.assertEqual(wanted(make("a", "aa"), [0]), [])
        self.assertEqual(wanted(make("a", ""), []), [])
        self.assertEqual(wanted(make("a b", "ab ba"), [0, 1]), [])

    def test_tight_of(self):
        self.assertEqual(tight_of(LINE, [0, 1, 2], 1), ("c", "d"))
        self.assertIsNone(tight_of(ROUND, [0, 1, 2], 2))
        self.assertEqual(tight_of(k=1, ties=[0, 1], web=ROUND), ("d",))
        self.assertIsNone(tight_of(make("a", "aa"), [0], 0))

    def test_goes_over(self):
        for place, due in [("a", list("abcd")), ("b", list("bcd")), ("c", list("cd")), ("d", ["d"])]:
            self.assertEqual(goes_over(LINE, [0, 1, 2], place), due)
        self.assertEqual(goes_over(ROUND, [0, 1], "d"), ["d"])
        self.assertEqual(goes_over(ROUND, [0, 1], "b"), ["b", "d"])
        self.assertEqual(goes_over(ROUND, [0, 1], "c"), ["c", "d"])
        self.assertEqual(goes_over(place="a", ties=[0, 1], web=ROUND), ["a", "b", "c", "d"])
        # No cut is tight: each place goes over to all.
        self.assertEqual(goes_over(ROUND, [0, 1, 2, 3], "d"), ["a", "b", "c", "d"])
        self.assertEqual(goes_over(make("a", ""), [], "a"), ["a"])

    def test_exchanges(self):
        self.assertEqual(exchanges(LINE, [0, 1, 2]), [])
        self.assertEqual(exchanges(ROUND, [0, 1]), [])
        self.assertEqual(exchanges(make("a b", "ab ab"), [0]), [(0, 1)])
        self.assertEqual(exchanges(ties=[0, 1], web=make("a b c", "ba ac bc")), [(0, 2), (1, 2)])
        self.assertEqual(exchanges(make("a b c", "ba ac bc"), [2]), [])
        self.assertEqual(exchanges(make("a", "aa aa aa"), [1]), [(1, 0), (1, 2)])
        self.assertEqual(exchanges(ROUND, [0, 1, 2]), [(0, 3), (1, 3), (2, 3)])

    def test_of_many_meeters(self):
        seen = {True: 0, False: 0}
        for web, ties in meeters_of_many(65):
            tights = plain_tights(web, ties)
            held = {k for cut in tights for k in plain_ties(web, cut) if k in ties}
            self.assertEqual(wanted(web, ties), sorted(held))
            for k in ties:
                self.check_tight(web, ties, k, k in held)
                seen[k in held] += 1
            for place in web.places():
                having = [set(cut) for cut in tights if place in cut]
                due = set(web.places()).intersection(*having)
                self.assertEqual(goes_over(web, ties, place), sorted(due))
        self.assertGreater(min(seen.values()), 500)

    def check_tight(self, web, ties, k, due):
        told = tight_of(web, ties, k)
        if not due:
            self.assertIsNone(told)
            return
        self.assertIs(is_cut(web, told), True)
        self.assertEqual([other for other in plain_ties(web, told) if other in ties], [k])

    def test_wanted_just_where_the_meeter_without_it_is_none(self):
        for web in hanging_webs(66, 40, 6, 7):
            lists = plain_meeters(web)
            for ties in lists:
                due = [k for k in ties if [other for other in ties if other != k] not in lists]
                self.assertEqual(wanted(web, ties), due)

    def test_exchanges_of_many_meeters(self):
        seen = 0
        for web in hanging_webs(67, 50, 6, 7):
            lists = plain_meeters(web)
            for ties in lists:
                due = [(out, into) for out in ties for into in range(web.many())
                       if into not in ties and sorted(set(ties) - {out} | {into}) in lists]
                self.assertEqual(exchanges(web, ties), due)
                seen += len(due)
        self.assertGreater(seen, 1000)

    def test_twelve_places(self):
        chance = random.Random(68)
        for web in large_webs(69, 6):
            ties = lean_list(web, chance)
            tights = plain_tights(web, ties)
            held = {k for cut in tights for k in plain_ties(web, cut) if k in ties}
            self.assertEqual(wanted(web, ties), sorted(held))
            for k in ties:
                self.check_tight(web, ties, k, k in held)
            for place in web.places():
                having = [set(cut) for cut in tights if place in cut]
                self.assertEqual(goes_over(web, ties, place), sorted(set(web.places()).intersection(*having)))
            self.assertEqual(exchanges(web, ties), sorted(set(exchanges(web, ties))))


class Refused(unittest.TestCase, Refusals):
    def test_wanted_and_exchanges(self):
        for ask in [wanted, exchanges]:
            self.refuse_all(ask)
            self.refuse_all(lambda web, ties: ask(ties=ties, web=web))

    def test_goes_over(self):
        for place in ["a", "nowhere", None, ["a"]]:
            self.refuse_all(lambda web, ties: goes_over(web, ties, place))
            self.refuse_all(lambda web, ties: goes_over(place=place, ties=ties, web=web))

    def test_no_place(self):
        for thing in odd_things() + ["e", "ab", "nowhere", 0, ("a",), ["a"]]:
            with self.assertRaises(NoPlace):
                goes_over(LINE, [0, 1, 2], thing)
            with self.assertRaises(NoPlace):
                goes_over(web=LINE, ties=[0, 1, 2], place=thing)

    def test_tight_of(self):
        self.refuse_apart(lambda web, ties: tight_of(web, ties, 0))
        self.refuse_apart(lambda web, ties: tight_of(web, ties, None))
        self.refuse_no_tie(lambda web, ties: tight_of(web, ties, 0))
        self.refuse_no_tie(lambda web, ties: tight_of(k=0, ties=ties, web=web))
        self.refuse_no_meeter(lambda web, ties: tight_of(web, ties, ties[0]) if ties else wanted(web, ties))

    def test_no_tie_of_the_list_ahead_of_no_meeter(self):
        for ties in [[0, 1], [0, 1, 2, 3], [0], []]:
            for k in [k for k in range(-1, 5) if k not in ties] + odd_things() + ["0", [0], (0,), [0, 1]]:
                with self.assertRaises(NoTie):
                    tight_of(ROUND, ties, k)
                with self.assertRaises(NoTie):
                    tight_of(web=ROUND, ties=ties, k=k)
        # The number of a tie, but True or False.
        for k in [True, False]:
            with self.assertRaises(NoTie):
                tight_of(ROUND, [0, 1], k)
        for k in [0, 2]:
            with self.assertRaises(NoMeeter):
                tight_of(ROUND, [0, 2], k)
        for web in apart():
            with self.assertRaises(Apart):
                tight_of(web, not_ties(web.many())[0], 99)


class TheWhole(unittest.TestCase):
    def test_other_names(self):
        for web, ties in meeters_of_many(70, 15):
            names = other_names(web)
            named = with_names(web, names)
            self.assertEqual(wanted(named, ties), wanted(web, ties))
            self.assertEqual(exchanges(named, ties), exchanges(web, ties))
            for place in web.places():
                told = goes_over(named, ties, names[place])
                self.assertEqual(tuple(told), put(names, goes_over(web, ties, place)))

    def test_all_ties_turned(self):
        for web, ties in meeters_of_many(71, 15):
            turned = all_turned(web)
            self.assertEqual(wanted(turned, ties), wanted(web, ties))
            self.assertEqual(exchanges(turned, ties), exchanges(web, ties))
            for one in web.places():
                for other in goes_over(web, ties, one):
                    self.assertIn(one, goes_over(turned, ties, other))


class Kept(unittest.TestCase):
    def test_nothing_changes_and_told_is_the_askers_own(self):
        before = state(ROUND)
        ties = [0, 1, 2]
        for ask in [wanted, exchanges, lambda web, ties: goes_over(web, ties, "b")]:
            told = ask(ROUND, ties)
            kept = list(told)
            told.append(9)
            told.reverse()
            self.assertEqual(ask(ROUND, ties), kept)
        self.assertEqual(tight_of(ROUND, ties, 1), tight_of(ROUND, ties, 1))
        self.assertEqual(ties, [0, 1, 2])
        self.assertEqual(state(ROUND), before)


if __name__ == "__main__":
    unittest.main()
