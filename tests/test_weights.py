import random
import unittest

from cutmeet.errors import Apart, NoWeights
from cutmeet.papers import is_paper
from cutmeet.rounds import how_few
from cutmeet.weights import full_paper, how_light, is_full_paper, lightest
from samples import (
    Stubborn, all_turned, apart, endless, hanging_webs, large_webs, make, odd_things, other_names, others, plain_cuts,
    plain_meeters, plain_ties, put, spoil, state, with_names,
)

MOST = 999999999999
LINE = make("a b c d", "ab bc cd")
ROUND = make("a b c d", "ab bd ac cd")
STAR = make("a b c d", "ab ac ad")


def plain_full_paper(web, weights, thing):
    """Whether it is a full paper, by a look at the cuts themselves; of lists of numbers and of tuples."""
    ties, rows = thing
    cuts = plain_cuts(web)
    named = [cut for cut, times in rows]
    if ties != sorted(set(ties)) or rows != sorted(rows) or len(set(named)) < len(named) or not set(named) <= set(cuts):
        return False
    if not all(any(k in ties for k in plain_ties(web, cut)) for cut in cuts):
        return False
    if any(times < 1 for cut, times in rows):
        return False
    for k, weight in enumerate(weights):
        if sum(times for cut, times in rows if k in plain_ties(web, cut)) > weight:
            return False
    return sum(times for cut, times in rows) == sum(weights[k] for k in ties)


def chance_weights(chance, many):
    """Weights of one of several sorts."""
    most = chance.choice([0, 1, 1, 2, 5, 100, MOST])
    low = chance.choice([0, 0, most, MOST - 3 if most == MOST else 0])
    return [chance.randint(low, most) for each in range(many)]


def weighed_webs(seed, many, most=6, ties=8):
    chance = random.Random(seed)
    return [(web, chance_weights(chance, web.many())) for web in hanging_webs(seed, many, most, ties)
            for each in range(3)]


def not_weights(many):
    """Things that are no weights of a web of so many ties, two at least."""
    ones = [1] * (many - 1)
    return [
        [], ones, ones + [1, 1], [1] * 1000, ones + [-1], [-1] + ones, ones + [MOST + 1], [1000000000000] + ones,
        ones + [10 ** 40], ones + [-(10 ** 40)], ones + [True], [False] + ones, ones + [None], ones + ["1"],
        ones + [b"1"], ones + [[]], ones + [[1]], ones + [(1,)], ones + [{}], ones + [Stubborn()], [Stubborn()] + ones,
        [Stubborn()] * many, ones + [1j], [None] * many, tuple(ones + [1]), tuple(ones), (), None, True, 1, "1" * many,
        "", b"\x01" * many, {k: 1 for k in range(many)}, {}, range(many), iter(ones + [1]), endless(), [endless()] * many,
        Stubborn(), len,
    ] + odd_things()


class Weights(unittest.TestCase):
    def test_lightest(self):
        self.assertEqual(lightest(LINE, [5, 0, MOST]), [0, 1, 2])
        self.assertEqual(how_light(LINE, [5, 0, MOST]), MOST + 5)
        self.assertEqual(lightest(ROUND, [1, 1, 2, 2]), [0, 1])
        self.assertEqual(lightest(weights=[3, 2, 1, 3], web=ROUND), [2, 3])
        self.assertEqual(how_light(weights=[3, 2, 1, 3], web=ROUND), 4)
        # Two ties that are lighter together than the one that would do.
        web = make("a b c", "ba ac bc")
        self.assertEqual(lightest(web, [2, 2, 5]), [0, 1])
        self.assertEqual(lightest(web, [2, 4, 5]), [2])
        self.assertEqual((how_light(web, [2, 2, 5]), how_light(web, [2, 4, 5])), (4, 5))

    def test_where_there_is_no_cut(self):
        for web in [make("a", ""), make("a", "aa aa"), make("a b", "ab ba"), make("a b c", "ab bc ca aa")]:
            for weight in [0, 1, MOST]:
                weights = [weight] * web.many()
                self.assertEqual(how_light(web, weights), 0)
                ties, rows = full_paper(web, weights)
                self.assertEqual(rows, [])
                self.assertEqual(sum(weights[k] for k in ties), 0)
                self.assertIs(is_full_paper(web, weights, (ties, rows)), True)

    def test_of_many_webs(self):
        for web, weights in weighed_webs(91, 120):
            lists = plain_meeters(web)
            due = min(sum(weights[k] for k in ties) for ties in lists)
            told = lightest(web, weights)
            self.assertIn(told, lists)
            self.assertEqual(sum(weights[k] for k in told), due)
            self.assertEqual(how_light(web, weights), due)

    def test_full_paper(self):
        self.assertEqual(full_paper(STAR, [5, 0, 7]), ([0, 1, 2], [(("b",), 5), (("d",), 7)]))
        self.assertEqual(full_paper(weights=[MOST], web=make("a b", "ab")), ([0], [(("b",), MOST)]))

    def check_told(self, web, weights, told):
        self.assertIsInstance(told, tuple)
        self.assertTrue(plain_full_paper(web, weights, told), (web.places(), web.ties(), weights, told))
        self.assertIs(is_full_paper(web, weights, told), True)
        for cut, times in told[1]:
            self.assertNotIn(0, [weights[k] for k in plain_ties(web, cut)])

    def test_full_papers_of_many_webs(self):
        for web, weights in weighed_webs(92, 150, 7, 12):
            told = full_paper(web, weights)
            self.check_told(web, weights, told)
            self.assertEqual(sum(times for cut, times in told[1]), how_light(web, weights))

    def test_twelve_places_and_thirty_ties(self):
        chance = random.Random(93)
        for web in large_webs(94, 12):
            for weights in [chance_weights(chance, 30), [chance.randint(0, MOST) for each in range(30)]]:
                self.check_told(web, weights, full_paper(web, weights))

    def test_weights_that_are_all_1(self):
        for web in hanging_webs(95, 80, 7, 12):
            ones = [1] * web.many()
            ties, rows = full_paper(web, ones)
            self.assertEqual({times for cut, times in rows} - {1}, set())
            self.assertIs(is_paper(web, (ties, [cut for cut, times in rows])), True)
            self.assertEqual(how_light(web, ones), how_few(web))
            self.assertEqual(len(lightest(web, ones)), how_few(web))

    def test_weights_that_are_all_0(self):
        for web in hanging_webs(96, 40):
            nothing = [0] * web.many()
            self.assertEqual(how_light(web, nothing), 0)
            self.assertEqual(full_paper(web, nothing)[1], [])
            self.assertIs(is_full_paper(web, nothing, (list(range(web.many())), [])), True)

    def test_all_weights_as_many_times(self):
        for web, weights in weighed_webs(97, 30):
            if max(weights, default=0) <= 100:
                many = [weight * 10 ** 9 for weight in weights]
                self.assertEqual(how_light(web, many), how_light(web, weights) * 10 ** 9)
                ties, rows = full_paper(web, weights)
                self.assertIs(is_full_paper(web, many, (ties, [(cut, times * 10 ** 9) for cut, times in rows])), True)


class IsFullPaper(unittest.TestCase):
    WEIGHTS = [2, 0, 3]
    GOOD = ([0, 1, 2], [(("b",), 2), (("d",), 3)])
    WRONG = [
        # Times that come to less or more than the meeter weighs, or to more than a tie.
        ([0, 1, 2], []), ([0, 1, 2], [(("b",), 2)]), ([0, 1, 2], [(("b",), 1), (("d",), 3)]),
        ([0, 1, 2], [(("b",), 3), (("d",), 2)]), ([0, 1, 2], [(("b",), 1), (("c",), 1), (("d",), 3)]),
        ([0, 1, 2], [(("b",), 2), (("b", "d"), 3)]), ([0, 1, 2], [(("b", "d"), 5)]), ([0, 1, 2], [(("b",), 5)]),
        ([0, 1, 2], [(("b",), 2), (("d",), 10 ** 40)]),
        # Times that are not from 1 on.
        ([0, 1, 2], [(("b",), 2), (("c",), 0), (("d",), 3)]), ([0, 1, 2], [(("b",), 2), (("b", "c"), -1), (("d",), 4)]),
        ([0, 1, 2], [(("b",), 2), (("d",), True)]), ([0, 1, 2], [(("b",), 2), (("d",), "3")]),
        ([0, 1, 2], [(("b",), 2), (("d",), None)]), ([0, 1, 2], [(("b",), 2), (("d",), [3])]),
        ([0, 1, 2], [(("b",), 2), (("d",), Stubborn())]), ([0, 1, 2], [(("b",), 2), (("d",), 3 + 0j)]),
        # Out of order, a cut twice.
        ([0, 1, 2], [(("d",), 3), (("b",), 2)]), ([0, 1, 2], [(("b",), 1), (("b",), 1), (("d",), 3)]),
        ([0, 1, 2], [(("b",), 2), (("d",), 1), (("d",), 2)]),
        # Ties that are no meeter, or no list of ties.
        ([0, 2], [(("b",), 2), (("d",), 3)]), ([], []), ([0, 1, 2, 2], [(("b",), 2), (("d",), 3)]),
        ([0, 2, 1], [(("b",), 2), (("d",), 3)]), ([0, True, 2], [(("b",), 2), (("d",), 3)]),
        ([0, 1, 3], [(("b",), 2), (("d",), 3)]), ([0, 1, 2, 3], [(("b",), 2), (("d",), 3)]),
        ((0, 1, 2), [(("b",), 2), (("d",), 3)]), (None, [(("b",), 2), (("d",), 3)]),
        # Other kinds.
        [[0, 1, 2], [(("b",), 2), (("d",), 3)]], ([0, 1, 2], ((("b",), 2), (("d",), 3))),
        ([0, 1, 2], [[("b",), 2], [("d",), 3]]), ([0, 1, 2], [(["b"], 2), (["d"], 3)]), ([0, 1, 2], [("b", 2), ("d", 3)]),
        ([0, 1, 2], {("b",): 2, ("d",): 3}), ([0, 1, 2], [(("b",), 2, 1), (("d",), 3)]), ([0, 1, 2], [(("b",),), (("d",), 3)]),
        ([0, 1, 2], [("b",), ("d",)]), ([0, 1, 2], [2, 3]), ([0, 1, 2], [None]), ([0, 1, 2], None), ([0, 1, 2],),
        ([0, 1, 2], [(("b",), 2), (("d",), 3)], []), ([0, 1, 2], [(("a",), 2), (("d",), 3)]),
        ([0, 1, 2], [(("b",), 2), (("z",), 3)]), ([0, 1, 2], [((), 2), (("d",), 3)]), ([0, 1, 2], [(2, ("b",)), (3, ("d",))]),
        ([0, 1, 2], [(Stubborn(), 2), (("d",), 3)]), ([0, 1, 2], [Stubborn()]), ([0, 1, 2], Stubborn()),
        (Stubborn(), Stubborn()), ([0, 1, 2], endless()), (endless(), endless()), ([0, 1, 2], [({}, 2)]),
        ([0, 1, 2], [(("b",), 1)] * 50000), ([0, 1, 2], "bd"),
    ]

    def test_listed(self):
        self.assertIs(is_full_paper(STAR, self.WEIGHTS, self.GOOD), True)
        self.assertIs(is_full_paper(thing=self.GOOD, weights=self.WEIGHTS, web=STAR), True)
        for thing in self.WRONG + odd_things():
            self.assertIs(is_full_paper(STAR, self.WEIGHTS, thing), False)
            self.assertIs(is_full_paper(thing=thing, weights=self.WEIGHTS, web=STAR), False)

    def test_of_a_web_that_does_not_hang(self):
        for web in apart():
            ones = [1] * web.many()
            for thing in [([], []), ([0], [(("a",), 1)]), self.GOOD, (list(range(web.many())), [])] + odd_things():
                self.assertIs(is_full_paper(web, ones, thing), False)
                self.assertIs(is_full_paper(web, [0] * web.many(), thing), False)

    def test_full_papers_with_one_thing_changed(self):
        seen = {True: 0, False: 0}
        chance = random.Random(98)
        for web, weights in weighed_webs(99, 80):
            cuts = plain_cuts(web)
            for each in range(3):
                ties, rows = full_paper(web, weights)
                deed = chance.randrange(6)
                spoil(chance, deed, ties, rows, cuts)
                if deed == 4:
                    ties = sorted(set(ties) | {k for k in range(web.many()) if weights[k] == 0})
                due = plain_full_paper(web, weights, (ties, rows))
                seen[due] += 1
                self.assertIs(is_full_paper(web, weights, (ties, rows)), due)
        self.assertGreater(min(seen.values()), 100)


class Refused(unittest.TestCase):
    ASKS = [
        lightest, how_light, full_paper, lambda web, weights: lightest(weights=weights, web=web),
        lambda web, weights: how_light(weights=weights, web=web),
        lambda web, weights: full_paper(weights=weights, web=web),
    ]

    def test_no_weights(self):
        more = [lambda web, weights: is_full_paper(web, weights, ([0, 1, 2], [])),
                lambda web, weights: is_full_paper(thing=None, web=web, weights=weights)]
        for web in [STAR, ROUND, make("a b", "ab ba")]:
            for thing in not_weights(web.many()):
                for ask in self.ASKS + more:
                    with self.assertRaises(NoWeights):
                        ask(web, thing)
        with self.assertRaises(NoWeights):
            lightest(make("a", ""), [0])
        self.assertEqual(lightest(make("a", ""), []), [])

    def test_apart_ahead_of_no_weights(self):
        for web in apart():
            for thing in not_weights(max(2, web.many())) + [[1] * web.many()]:
                for ask in self.ASKS:
                    with self.assertRaises(Apart) as taken:
                        ask(web, thing)
                    self.assertIn(taken.exception.cut, plain_cuts(web))
                    self.assertEqual(plain_ties(web, taken.exception.cut), [])

    def test_no_weights_ahead_of_false(self):
        for web in apart():
            for thing in [[1] * (web.many() + 1), [-1] * max(1, web.many()), None, (1,), [True] * max(1, web.many())]:
                for told in [([], []), None, Stubborn()]:
                    with self.assertRaises(NoWeights):
                        is_full_paper(web, thing, told)


class TheWhole(unittest.TestCase):
    def test_other_names_and_all_ties_turned(self):
        for web, weights in weighed_webs(100, 30, 7, 12):
            names = other_names(web)
            named, turned = with_names(web, names), all_turned(web)
            self.assertEqual(how_light(named, weights), how_light(web, weights))
            self.assertEqual(how_light(turned, weights), how_light(web, weights))
            ties, rows = full_paper(web, weights)
            put_rows = sorted((put(names, cut), times) for cut, times in rows)
            self.assertIs(is_full_paper(named, weights, (ties, put_rows)), True)
            turned_rows = sorted((others(web, cut), times) for cut, times in rows)
            self.assertIs(is_full_paper(turned, weights, (ties, turned_rows)), True)


class Kept(unittest.TestCase):
    def test_nothing_changes_and_told_is_the_askers_own(self):
        before = state(STAR)
        weights = [2, 0, 3]
        told = lightest(STAR, weights)
        kept = list(told)
        told.append(9)
        self.assertEqual(lightest(STAR, weights), kept)
        told = full_paper(STAR, weights)
        kept = repr(told)
        told[0].append(9)
        told[1].reverse()
        self.assertEqual(repr(full_paper(STAR, weights)), kept)
        told = full_paper(STAR, weights)
        is_full_paper(STAR, weights, told)
        self.assertEqual(repr(told), kept)
        self.assertEqual(how_light(STAR, weights), 5)
        self.assertEqual(weights, [2, 0, 3])
        self.assertEqual(state(STAR), before)


if __name__ == "__main__":
    unittest.main()
