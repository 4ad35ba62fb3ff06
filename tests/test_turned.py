import unittest

from cutmeet.errors import Apart, Bridge, NoTie
from cutmeet.meeters import is_meeter
from cutmeet.rounds import how_few
from cutmeet.turned import bridges, fewest_turned, is_lean, made_lean, turned_about
from cutmeet.ways import all_reach
from cutmeet.webs import Web
from samples import (
    Refusals, all_lists, all_turned, all_webs, apart, hanging, hanging_webs, held_ties, large_webs, make, not_ties,
    other_names, others, plain_cuts, plain_meeters, plain_meets, plain_pieces, plain_reach, plain_ties, state, with_names,
)

LINE = make("a b c d", "ab bc cd")
# Two ways from a to d.
ROUND = make("a b c d", "ab bd ac cd")
NO_CUTS = [make("a", ""), make("a", "aa aa"), make("a b", "ab ba"), make("a b c", "ab bc ca aa")]


def plain_bridges(web):
    """The ties without which there are more pieces."""
    found = []
    for k in range(web.many()):
        part = Web(web.places(), [tie for at, tie in enumerate(web.ties()) if at != k])
        if len(plain_pieces(part, web.places())) > 1:
            found.append(k)
    return found


def plain_turned(web, ties):
    return Web(web.places(), [(b, a) if k in ties else (a, b) for k, (a, b) in enumerate(web.ties())])


def plain_all_reach(web):
    return len(plain_reach(web.places(), web.ties())) == len(web.places()) ** 2


def small_webs(seed, many=70, ties=7):
    return hanging_webs(seed, many, 6, ties)


def lean_of(web):
    return made_lean(web, list(range(web.many())))


def short_of_one(ties):
    """The lists that lack just one of these ties."""
    return [[one for one in ties if one != k] for k in ties]


class Lean(Refusals, unittest.TestCase):
    def test_some(self):
        self.assertIs(is_lean(LINE, [0, 1, 2]), True)
        self.assertIs(is_lean(ROUND, [0, 1]), True)
        self.assertIs(is_lean(ties=[0, 1, 2], web=ROUND), False)
        self.assertEqual(made_lean(ROUND, [0, 1, 2, 3]), [2, 3])
        self.assertEqual(made_lean(ROUND, [0, 1, 2]), [0, 1])
        self.assertEqual(made_lean(ties=[0, 1, 2], web=LINE), [0, 1, 2])
        # Each tie is wanted, though there is a list of fewer ties.
        self.assertIs(is_lean(make("a b c", "ba ac bc"), [0, 1]), True)
        self.assertEqual(made_lean(make("a b c", "ba ac bc"), [0, 1, 2]), [2])
        self.assertEqual(made_lean(make("a b c", "bc ba ac"), [0, 1, 2]), [1, 2])
        for web in NO_CUTS:
            self.assertIs(is_lean(web, []), True)
            self.assertEqual(made_lean(web, []), [])
            if web.many():
                self.assertIs(is_lean(web, [0]), False)
                self.assertEqual(made_lean(web, list(range(web.many()))), [])

    def test_against_all_cuts(self):
        seen = {True: 0, False: 0}
        for web in small_webs(180):
            held = held_ties(web)
            for ties in plain_meeters(web):
                due = not any(plain_meets(held, [one for one in ties if one != k]) for k in ties)
                self.assertIs(is_lean(web, ties), due)
                seen[due] += 1
                left = list(ties)
                for k in ties:
                    if plain_meets(held, [one for one in left if one != k]):
                        left.remove(k)
                told = made_lean(web, ties)
                self.assertEqual(told, left)
                self.assertIs(is_lean(web, told), True)
        self.assertGreater(min(seen.values()), 100)

    def test_what_misses_a_cut_is_not_lean(self):
        self.assertIs(is_lean(LINE, []), False)
        self.assertIs(is_lean(ROUND, [0]), False)
        self.assertIs(is_lean(ties=[0, 2], web=ROUND), False)
        # The tie lies in no cut, so that it is not wanted either.
        self.assertIs(is_lean(make("a b", "aa ab"), [0]), False)
        seen = 0
        for web in small_webs(190) + large_webs(191, 10):
            held = held_ties(web)
            for ties in all_lists(web.many()) if web.many() < 8 else short_of_one(lean_of(web)):
                if not plain_meets(held, ties):
                    kept = list(ties)
                    self.assertIs(is_lean(web, ties), False)
                    self.assertIs(is_lean(ties=ties, web=web), False)
                    self.assertEqual(ties, kept)
                    seen += 1
        self.assertGreater(seen, 1000)

    def test_refused(self):
        for ask in [is_lean, lambda web, ties: is_lean(ties=ties, web=web)]:
            self.refuse_apart(ask)
            self.refuse_no_tie(ask)
        for ask in [made_lean, lambda web, ties: made_lean(ties=ties, web=web)]:
            self.refuse_all(ask)


class Turned(unittest.TestCase):
    def test_some(self):
        self.assertEqual(state(turned_about(LINE, [])), state(LINE))
        self.assertEqual(state(turned_about(LINE, [1])), state(make("a b c d", "ab cb cd")))
        self.assertEqual(state(turned_about(ties=[0, 1, 2], web=LINE)), state(make("a b c d", "ba cb dc")))
        self.assertEqual(state(turned_about(make("a", "aa"), [0])), state(make("a", "aa")))
        self.assertEqual(state(turned_about(make("a b", ""), [])), state(make("a b", "")))

    def test_of_many(self):
        for web in all_webs(181, 60):
            for ties in all_lists(web.many())[:200]:
                told = turned_about(web, ties)
                self.assertEqual(state(told), state(plain_turned(web, ties)))
                self.assertEqual(state(turned_about(told, ties)), state(web))

    def test_the_cuts_of_a_web_with_all_ties_turned(self):
        for web in all_webs(182, 60):
            told = turned_about(web, list(range(web.many())))
            self.assertEqual(plain_cuts(told), sorted(others(web, cut) for cut in plain_cuts(web)))
            for cut in plain_cuts(web):
                self.assertEqual(plain_ties(told, others(web, cut)), plain_ties(web, cut))

    def test_no_tie(self):
        for web in [LINE, make("a b c d", "ab ba cd")]:
            for thing in not_ties(3):
                with self.assertRaises(NoTie):
                    turned_about(web, thing)
                with self.assertRaises(NoTie):
                    turned_about(ties=thing, web=web)


class Bridges(unittest.TestCase):
    def test_some(self):
        self.assertEqual(bridges(LINE), [0, 1, 2])
        self.assertEqual(bridges(ROUND), [])
        self.assertEqual(bridges(web=make("a b c", "ab ab bc cc")), [2])
        self.assertEqual(bridges(make("a b", "ab ba")), [])
        self.assertEqual(bridges(make("a b", "ba")), [0])
        self.assertEqual(bridges(make("a", "")), [])
        self.assertEqual(bridges(make("a", "aa")), [])

    def test_of_many(self):
        seen = {}
        for web in hanging(all_webs(183, 150)) + hanging_webs(184, 60):
            told = bridges(web)
            self.assertEqual(told, plain_bridges(web))
            seen[len(told)] = seen.get(len(told), 0) + 1
        self.assertGreater(min(seen[0], seen[1], seen[2]), 10)

    def test_apart(self):
        for web in apart():
            for ask in [bridges, fewest_turned, lambda web: bridges(web=web), lambda web: fewest_turned(web=web)]:
                with self.assertRaises(Apart) as taken:
                    ask(web)
                self.assertIn(taken.exception.cut, plain_cuts(web))
                self.assertEqual(plain_ties(web, taken.exception.cut), [])


class FewestTurned(unittest.TestCase):
    def test_some(self):
        self.assertIn(fewest_turned(ROUND), [[0, 1], [2, 3]])
        self.assertIn(fewest_turned(web=make("a b", "ab ab")), [[0], [1]])
        self.assertEqual(fewest_turned(make("a b c", "ba ac bc")), [2])
        for web in NO_CUTS:
            self.assertEqual(fewest_turned(web), [])

    def test_a_lean_list_turned(self):
        seen = 0
        for web in small_webs(185, 120, 8):
            if not plain_bridges(web):
                for ties in plain_meeters(web):
                    if is_lean(web, ties):
                        self.assertTrue(plain_all_reach(plain_turned(web, ties)))
                        seen += 1
        self.assertGreater(seen, 100)

    def test_against_all_lists(self):
        seen = {}
        for web in hanging_webs(186, 150, 5, 8):
            if plain_bridges(web):
                continue
            due = next(ties for ties in all_lists(web.many()) if plain_all_reach(plain_turned(web, ties)))
            told = fewest_turned(web)
            self.assertEqual(told, sorted(set(told)))
            self.assertTrue(plain_all_reach(plain_turned(web, told)))
            self.assertIs(all_reach(turned_about(web, told)), True)
            self.assertEqual(len(told), len(due))
            seen[len(told)] = seen.get(len(told), 0) + 1
        self.assertGreater(min(seen[1], seen[2]), 5)

    def test_large(self):
        seen = 0
        for web in large_webs(187, 30):
            if not plain_bridges(web):
                told = fewest_turned(web)
                self.assertTrue(plain_all_reach(plain_turned(web, told)))
                self.assertIs(is_meeter(web, told), True)
                self.assertEqual(len(told), how_few(web))
                seen += 1
        self.assertGreater(seen, 5)

    def test_bridge(self):
        for web, due in [(LINE, 0), (make("a b", "ab"), 0), (make("a b c", "ab ba cb"), 2), (make("a b c", "aa bc ba"), 1)]:
            with self.assertRaises(Bridge) as taken:
                fewest_turned(web)
            self.assertEqual(taken.exception.number, due)

    def test_bridge_of_many(self):
        seen = 0
        for web in hanging(all_webs(188, 150)):
            due = plain_bridges(web)
            if due:
                with self.assertRaises(Bridge) as taken:
                    fewest_turned(web)
                self.assertEqual(taken.exception.number, due[0])
                seen += 1
        self.assertGreater(seen, 30)

    def test_apart_ahead_of_bridge(self):
        web = make("a b c", "bc")
        with self.assertRaises(Apart) as taken:
            fewest_turned(web)
        self.assertIn(taken.exception.cut, [("a",), ("b", "c")])

    def test_other_names_and_all_ties_turned(self):
        for web in hanging_webs(189, 40):
            names = other_names(web)
            self.assertEqual(bridges(with_names(web, names)), bridges(web))
            self.assertEqual(bridges(all_turned(web)), bridges(web))
            every = list(range(web.many()))
            self.assertEqual(made_lean(with_names(web, names), every), made_lean(web, every))
            self.assertEqual(made_lean(all_turned(web), every), made_lean(web, every))
            if not bridges(web):
                self.assertEqual(len(fewest_turned(with_names(web, names))), len(fewest_turned(web)))
                self.assertEqual(len(fewest_turned(all_turned(web))), len(fewest_turned(web)))


class Kept(unittest.TestCase):
    def test_nothing_changes_and_told_is_the_askers_own(self):
        before, ties = state(ROUND), [0, 1, 2]
        told = made_lean(ROUND, ties)
        told.clear()
        self.assertEqual(ties, [0, 1, 2])
        self.assertEqual(made_lean(ROUND, ties), [0, 1])
        lean = [0, 1]
        made_lean(ROUND, lean).append(7)
        self.assertEqual(lean, [0, 1])
        made = turned_about(ROUND, ties)
        kept = state(made)
        ties.pop()
        made.ties().clear()
        self.assertEqual(state(made), kept)
        told = fewest_turned(ROUND)
        kept = list(told)
        told.clear()
        self.assertEqual(fewest_turned(ROUND), kept)
        bridges(LINE).clear()
        self.assertEqual(bridges(LINE), [0, 1, 2])
        self.assertEqual(state(ROUND), before)


if __name__ == "__main__":
    unittest.main()
