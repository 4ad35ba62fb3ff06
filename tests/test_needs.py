import random
import unittest

from cutmeet.errors import Apart, TooFew
from cutmeet.needs import is_needs_paper, needs_paper
from cutmeet.rounds import how_few
from cutmeet.webs import Web
from samples import (
    Stubborn, all_lists, all_turned, apart, endless, hanging, hanging_webs, held_ties, large_webs, make, odd_things,
    other_names, others, plain_cuts, plain_ties, put, spoil, state, with_names,
)

MOST = 999999999999
PAIR = make("a b", "ab ab ab")
# Two ways of two ties each from a to d, and ties that go straight.
WIDE = make("a b c d", "ab bd ac cd ad ad")
NO_CUTS = [make("a", ""), make("a", "aa aa"), make("a b", "ab ba"), make("a b c", "ab bc ca aa")]


def plain_loads(web, rows):
    return [sum(times for cut, times in rows if k in plain_ties(web, cut)) for k in range(web.many())]


def plain_sum(web, k, rows):
    """To what the cuts with times come, as point 25 tells."""
    return k * sum(times for cut, times in rows) - sum(load - 1 for load in plain_loads(web, rows) if load > 1)


def meets_times(held, k, ties):
    return all(len([one for one in row if one in ties]) >= k for row in held)


def plain_needs_paper(web, k, thing):
    """Whether it is such a paper, by a look at the cuts themselves; of lists of numbers and of tuples."""
    ties, rows = thing
    named = [cut for cut, times in rows]
    if ties != sorted(set(ties)) or rows != sorted(rows) or len(set(named)) < len(named):
        return False
    if not set(named) <= set(plain_cuts(web)) or any(times < 1 for cut, times in rows):
        return False
    return meets_times(held_ties(web), k, ties) and plain_sum(web, k, rows) == len(ties)


def wide_web(chance, most, ties):
    """A web that hangs, with several ties between many of its places, told by a seeded source."""
    places = list("abcdefghijkl"[:chance.randint(2, most)])
    pairs = [(chance.choice(places[:at]), places[at]) for at in range(1, len(places))]
    while len(pairs) < ties:
        pairs.append(chance.choice(pairs) if chance.random() < 0.4 else tuple(sorted(chance.sample(places, 2))))
    pairs = [pair[::-1] if chance.random() < 0.05 else pair for pair in pairs]
    chance.shuffle(pairs)
    return Web(places, pairs)


def wide_webs(seed, many, most=5, ties=9):
    chance = random.Random(seed)
    return [wide_web(chance, most, chance.randint(most, ties)) for each in range(many)]


def narrow(web):
    """How few ties a cut of the web has, None where there is no cut."""
    return min([len(row) for row in held_ties(web)], default=None)


class Needs(unittest.TestCase):
    def check_told(self, web, k, told):
        self.assertIsInstance(told, tuple)
        self.assertIsInstance(told[0], list)
        self.assertIsInstance(told[1], list)
        self.assertTrue(plain_needs_paper(web, k, told), (web.places(), web.ties(), k, told))
        self.assertIs(is_needs_paper(web, k, told), True)

    def test_some(self):
        for k in [1, 2, 3]:
            ties, rows = needs_paper(PAIR, k)
            self.assertEqual(len(ties), k)
            self.check_told(PAIR, k, (ties, rows))
        self.assertEqual(needs_paper(k=3, web=PAIR)[0], [0, 1, 2])
        # The straight ties are in each cut; then the ties of one of the ways, then those of the other one.
        self.assertEqual([len(needs_paper(WIDE, k)[0]) for k in [1, 2, 3, 4]], [1, 2, 4, 6])
        self.assertEqual(needs_paper(WIDE, 2)[0], [4, 5])
        self.assertIn(needs_paper(WIDE, 3)[0], [[0, 1, 4, 5], [2, 3, 4, 5]])
        with self.assertRaises(TooFew):
            needs_paper(WIDE, 5)

    def test_against_all_lists(self):
        seen = {}
        for web in wide_webs(110, 60) + hanging_webs(111, 60, 6, 8):
            held, lists = held_ties(web), all_lists(web.many())
            few = narrow(web)
            for k in range(1, 1 + min(4, 3 if few is None else few)):
                due = next(len(ties) for ties in lists if meets_times(held, k, ties))
                told = needs_paper(web, k)
                self.check_told(web, k, told)
                self.assertEqual(len(told[0]), due)
                seen[k] = seen.get(k, 0) + (due > 0)
        self.assertGreater(min(seen[1], seen[2], seen[3]), 10)

    def test_wider_webs(self):
        seen, heavy = {}, 0
        for web in wide_webs(112, 60, 7, 22) + wide_webs(113, 6, 12, 30) + large_webs(114, 6):
            for k in range(1, 1 + min(6, narrow(web) or 2)):
                told = needs_paper(web, k)
                self.check_told(web, k, told)
                seen[k] = seen.get(k, 0) + 1
                heavy += max(plain_loads(web, told[1]), default=0) > 1
        self.assertGreater(min(seen[2], seen[3], seen[4]), 4)
        # Ties that lie in more cuts than one have a part.
        self.assertGreater(heavy, 10)

    def test_one_time_is_as_a_fewest_meeter(self):
        for web in hanging_webs(115, 80, 7, 12):
            told = needs_paper(web, 1)
            self.assertEqual(len(told[0]), how_few(web))

    def test_as_many_times_as_there_are_ties(self):
        web = Web(["a", "b"], [("a", "b")] * 30)
        for k in [1, 2, 29, 30]:
            told = needs_paper(web, k)
            self.check_told(web, k, told)
            self.assertEqual(len(told[0]), k)
        with self.assertRaises(TooFew):
            needs_paper(web, 31)
        web = Web(["a", "b", "c"], [("a", "b")] * 15 + [("b", "c")] * 15)
        told = needs_paper(web, 15)
        self.assertEqual(told[0], list(range(30)))
        self.check_told(web, 15, told)

    def test_where_there_is_no_cut(self):
        for web in NO_CUTS:
            for k in [1, 2, 30, 31, MOST]:
                self.assertEqual(needs_paper(web, k), ([], []))
                self.assertIs(is_needs_paper(web, k, ([], [])), True)
                self.assertIs(is_needs_paper(web, k, ([], [(("a",), 1)])), False)
                if web.many():
                    self.assertIs(is_needs_paper(web, k, ([0], [])), False)

    def test_too_few_just_where_a_cut_has_less(self):
        for web in wide_webs(116, 40) + hanging_webs(117, 40) + large_webs(118, 3):
            few = narrow(web)
            if few is None:
                continue
            self.assertEqual(len(needs_paper(web, few)), 2)
            for k in [few + 1, few + 2, 31, 1000, MOST]:
                with self.assertRaises(TooFew) as taken:
                    needs_paper(web, k)
                cut = taken.exception.cut
                self.assertIn(cut, plain_cuts(web))
                self.assertLess(len(plain_ties(web, cut)), k)
                with self.assertRaises(TooFew):
                    needs_paper(k=k, web=web)

    def test_apart_ahead_of_too_few(self):
        for web in apart():
            for k in [1, 2, 3, 31, MOST]:
                for ask in [lambda: needs_paper(web, k), lambda: needs_paper(k=k, web=web)]:
                    with self.assertRaises(Apart) as taken:
                        ask()
                    self.assertIn(taken.exception.cut, plain_cuts(web))
                    self.assertEqual(plain_ties(web, taken.exception.cut), [])

    def test_no_times(self):
        # Somewhat beyond what is told, and not refused.
        for web in [PAIR, WIDE] + NO_CUTS:
            self.assertEqual(needs_paper(web, 0), ([], []))


class IsNeedsPaper(unittest.TestCase):
    # Each cut of this web has two ties at least; its cuts are b, bc and c.
    WEB = make("a b c", "ab ab ac ac ac")
    GOOD = ([0, 1, 2, 3], [(("b",), 1), (("c",), 1)])
    WRONG = [
        # Ties that meet a cut too few times, or more than there need be.
        ([0, 2, 3], [(("b",), 1), (("c",), 1)]), ([0, 1, 2], [(("b",), 1), (("c",), 1)]), ([], []), ([0, 2], [(("b",), 1)]),
        ([0, 1, 2, 3, 4], [(("b",), 1), (("c",), 1)]),
        # Times that are not from 1 on.
        ([0, 1, 2, 3], [(("b",), 1), (("b", "c"), 0), (("c",), 1)]), ([0, 1, 2, 3], [(("b",), True), (("c",), 1)]),
        ([0, 1, 2, 3], [(("b",), 1), (("c",), True)]), ([0, 1, 2, 3], [(("b",), False), (("c",), 1)]),
        ([0, 1, 2, 3], [(("b",), 1), (("c",), -1)]), ([0, 1, 2, 3], [(("b",), 1), (("c",), "1")]),
        ([0, 1, 2, 3], [(("b",), 1), (("c",), None)]), ([0, 1, 2, 3], [(("b",), 1), (("c",), [1])]),
        ([0, 1, 2, 3], [(("b",), 1), (("c",), Stubborn())]), ([0, 1, 2, 3], [(("b",), 1), (("c",), 1 + 0j)]),
        # Another sum.
        ([0, 1, 2, 3], []), ([0, 1, 2, 3], [(("b",), 1)]), ([0, 1, 2, 3], [(("b",), 1), (("c",), 2)]),
        ([0, 1, 2, 3], [(("b",), 1), (("b", "c"), 1), (("c",), 1)]), ([0, 1, 2, 3], [(("b",), 1), (("c",), 10 ** 40)]),
        ([0, 1, 2, 3], [(("b", "c"), 1)]), ([0, 1, 2, 3], [(("b", "c"), 2)]),
        # Out of order, a cut twice.
        ([0, 1, 2, 3], [(("c",), 1), (("b",), 1)]), ([0, 1, 2, 3], [(("b",), 1), (("b",), 1), (("c",), 1)]),
        ([0, 1, 2, 3], [(("b",), 1), (("c",), 1), (("c",), 1)]),
        # What is no list of ties.
        ([0, 1, 2, 3, 3], [(("b",), 1), (("c",), 1)]), ([0, 1, 3, 2], [(("b",), 1), (("c",), 1)]),
        ([0, True, 2, 3], [(("b",), 1), (("c",), 1)]), ([False, 1, 2, 3], [(("b",), 1), (("c",), 1)]),
        ([0, 1, 2, 5], [(("b",), 1), (("c",), 1)]), ([-1, 0, 1, 2], [(("b",), 1), (("c",), 1)]),
        ((0, 1, 2, 3), [(("b",), 1), (("c",), 1)]), (None, [(("b",), 1), (("c",), 1)]), ("0123", [(("b",), 1), (("c",), 1)]),
        # Other kinds.
        [[0, 1, 2, 3], [(("b",), 1), (("c",), 1)]], ([0, 1, 2, 3], ((("b",), 1), (("c",), 1))),
        ([0, 1, 2, 3], [[("b",), 1], [("c",), 1]]), ([0, 1, 2, 3], [(["b"], 1), (["c"], 1)]),
        ([0, 1, 2, 3], [("b", 1), ("c", 1)]), ([0, 1, 2, 3], {("b",): 1, ("c",): 1}), ([0, 1, 2, 3], [("b",), ("c",)]),
        ([0, 1, 2, 3], [(("b",), 1, 1), (("c",), 1)]), ([0, 1, 2, 3], [(("b",),), (("c",), 1)]), ([0, 1, 2, 3], [1, 1]),
        ([0, 1, 2, 3], [None, None]), ([0, 1, 2, 3], None), ([0, 1, 2, 3],), ([0, 1, 2, 3], [(("b",), 1), (("c",), 1)], []),
        ([0, 1, 2, 3], [(("a",), 1), (("c",), 1)]), ([0, 1, 2, 3], [(("b",), 1), (("z",), 1)]),
        ([0, 1, 2, 3], [((), 1), (("c",), 1)]), ([0, 1, 2, 3], [(("a", "b", "c"), 1), (("c",), 1)]),
        ([0, 1, 2, 3], [(("c", "b"), 1), (("c",), 1)]), ([0, 1, 2, 3], [(Stubborn(), 1), (("c",), 1)]),
        ([0, 1, 2, 3], [Stubborn()]), ([0, 1, 2, 3], Stubborn()), (Stubborn(), Stubborn()), ([0, 1, 2, 3], endless()),
        (endless(), endless()), ([0, 1, 2, 3], [({}, 1)]), ([0, 1, 2, 3], "bc"), ([0, 1, 2, 3], [(("b",), 1)] * 50000),
    ]

    def test_listed(self):
        self.assertIs(is_needs_paper(self.WEB, 2, self.GOOD), True)
        self.assertIs(is_needs_paper(thing=self.GOOD, k=2, web=self.WEB), True)
        self.assertIs(is_needs_paper(self.WEB, 2, ([0, 1, 3, 4], self.GOOD[1])), True)
        for thing in self.WRONG + odd_things():
            self.assertIs(is_needs_paper(self.WEB, 2, thing), False)
            self.assertIs(is_needs_paper(thing=thing, k=2, web=self.WEB), False)

    def test_another_k(self):
        for k in [1, 3, 4, MOST]:
            self.assertIs(is_needs_paper(self.WEB, k, self.GOOD), False)
        for web in wide_webs(119, 25, 5, 12):
            few = narrow(web) or 1
            for k in range(1, few + 1):
                told = needs_paper(web, k)
                for other in [1, 2, 3, 4, MOST]:
                    self.assertIs(is_needs_paper(web, other, told), plain_needs_paper(web, other, told))

    def test_of_a_web_that_does_not_hang(self):
        for web in apart():
            for k in [1, 2, MOST]:
                for thing in [([], []), ([0], [(("a",), 1)]), self.GOOD, (list(range(web.many())), [])] + odd_things():
                    self.assertIs(is_needs_paper(web, k, thing), False)

    def test_papers_with_one_thing_changed(self):
        seen = {True: 0, False: 0}
        chance = random.Random(120)
        for web in wide_webs(121, 90):
            cuts = plain_cuts(web)
            for k in range(1, 1 + min(3, narrow(web) or 1)):
                ties, rows = needs_paper(web, k)
                deed = chance.randrange(6)
                spoil(chance, deed, ties, rows, cuts)
                if deed == 4 and ties and len(ties) < web.many():
                    ties.remove(chance.choice(ties))
                    ties = sorted(ties + [chance.choice([one for one in range(web.many()) if one not in ties])])
                due = plain_needs_paper(web, k, (ties, rows))
                seen[due] += 1
                self.assertIs(is_needs_paper(web, k, (ties, rows)), due)
        self.assertGreater(min(seen.values()), 40)

    def test_times_above_one_are_counted_off(self):
        # Each cut more that has these ties comes to k, less one for each tie of it: to nothing where it has just k.
        web = make("a b", "ab ab")
        for times in [1, 2, 7, 10 ** 40]:
            self.assertIs(is_needs_paper(web, 2, ([0, 1], [(("b",), times)])), True)
            self.assertIs(is_needs_paper(web, 1, ([0], [(("b",), times)])), times == 1)


class TheWhole(unittest.TestCase):
    def test_other_names_and_all_ties_turned(self):
        for web in wide_webs(122, 25) + hanging_webs(123, 15, 7, 12):
            names = other_names(web)
            named, turned = with_names(web, names), all_turned(web)
            for k in range(1, 1 + min(3, narrow(web) or 1)):
                ties, rows = needs_paper(web, k)
                self.assertEqual(len(needs_paper(named, k)[0]), len(ties))
                self.assertEqual(len(needs_paper(turned, k)[0]), len(ties))
                put_rows = sorted((put(names, cut), times) for cut, times in rows)
                self.assertIs(is_needs_paper(named, k, (ties, put_rows)), True)
                turned_rows = sorted((others(web, cut), times) for cut, times in rows)
                self.assertIs(is_needs_paper(turned, k, (ties, turned_rows)), True)

    def test_a_tie_in_no_cut_has_no_part(self):
        for web in wide_webs(124, 30):
            more = Web(web.places(), web.ties() + [(place, place) for place in web.places()])
            for k in range(1, 1 + min(3, narrow(web) or 1)):
                told = needs_paper(more, k)
                self.assertTrue(all(one < web.many() for one in told[0]))
                self.assertIs(is_needs_paper(web, k, told), True)


class Kept(unittest.TestCase):
    def test_nothing_changes_and_told_is_the_askers_own(self):
        for web, k in [(WIDE, 1), (PAIR, 2)]:
            before = state(web)
            told = needs_paper(web, k)
            kept = repr(told)
            is_needs_paper(web, k, told)
            self.assertEqual(repr(told), kept)
            told[0].append(9)
            told[1].reverse()
            told[1].append(None)
            self.assertEqual(repr(needs_paper(web, k)), kept)
            self.assertEqual(state(web), before)

    def test_webs_of_the_tests_hang(self):
        webs = wide_webs(112, 60, 7, 22)
        self.assertEqual(len(hanging(webs)), len(webs))


if __name__ == "__main__":
    unittest.main()
