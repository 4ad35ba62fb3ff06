import random
import unittest

from cutmeet.errors import NoCut
from cutmeet.papers import is_paper, paper, paper_of, parted_by
from samples import (
    Refusals, Stubborn, all_turned, apart, endless, hanging_webs, large_webs, lean_list, make, no_cuts, odd_things,
    other_names, others, plain_cuts, plain_meeters, plain_tights, plain_ties, put_all, state, with_names,
)

LINE = make("a b c d", "ab bc cd")
ROUND = make("a b c d", "ab bd ac cd")
STAR = make("a b c d", "ab ac ad")


def plain_paper(web, thing):
    """Whether it is a paper, by a look at the cuts themselves; of tuples of lists of numbers and tuples."""
    ties, cuts = thing
    all_of_them = plain_cuts(web)
    if ties != sorted(set(ties)) or cuts != sorted(set(cuts)) or not set(cuts) <= set(all_of_them):
        return False
    held = [k for cut in cuts for k in plain_ties(web, cut)]
    if len(held) != len(set(held)) or len(cuts) != len(ties):
        return False
    return all(any(k in ties for k in plain_ties(web, cut)) for cut in all_of_them)


class Papers(unittest.TestCase):
    def test_paper(self):
        self.assertEqual(paper(LINE), ([0, 1, 2], [("b", "c", "d"), ("c", "d"), ("d",)]))
        self.assertEqual(paper(web=STAR), ([0, 1, 2], [("b",), ("c",), ("d",)]))
        self.assertIn(paper(ROUND), [(ties, cuts) for ties in [[0, 1], [2, 3]]
                                     for cuts in [[("b", "c", "d"), ("d",)], [("b", "d"), ("c", "d")]]])

    def test_where_there_is_no_cut(self):
        for web in [make("a", ""), make("a", "aa aa"), make("a b", "ab ba"), make("a b c", "ab bc ca aa")]:
            self.assertEqual(paper(web), ([], []))
            self.assertEqual(paper_of(web, []), ([], []))
            self.assertIs(is_paper(web, ([], [])), True)
            self.assertIs(is_paper(web, ([], [("a",)])), False)
            if web.many():
                self.assertIsNone(paper_of(web, [0]))
                self.assertIs(is_paper(web, ([0], [])), False)
                self.assertIs(is_paper(web, ([0], [("a",)])), False)

    def check_told(self, web, told):
        self.assertIsInstance(told, tuple)
        self.assertIsInstance(told[0], list)
        self.assertIsInstance(told[1], list)
        self.assertTrue(plain_paper(web, told), (web.places(), web.ties(), told))
        self.assertIs(is_paper(web, told), True)
        for cut in told[1]:
            self.assertEqual(len([k for k in plain_ties(web, cut) if k in told[0]]), 1)

    def test_of_many_webs(self):
        for web in hanging_webs(80, 250, 7, 12):
            self.check_told(web, paper(web))

    def test_twelve_places_and_thirty_ties(self):
        for web in large_webs(81, 15):
            self.check_told(web, paper(web))

    def test_paper_of(self):
        self.assertEqual(paper_of(LINE, [0, 1, 2]), ([0, 1, 2], [("b", "c", "d"), ("c", "d"), ("d",)]))
        self.assertIsNone(paper_of(ROUND, [0, 1, 2]))
        self.assertEqual(paper_of(ties=[2, 3], web=ROUND)[0], [2, 3])
        # Each tie of it is wanted, but it is not a fewest one.
        self.assertIsNone(paper_of(make("a b c", "ba ac bc"), [0, 1]))

    def test_paper_of_many_meeters(self):
        seen = {True: 0, False: 0}
        for web in hanging_webs(82, 100, 6, 7):
            lists = plain_meeters(web)
            for ties in lists:
                told = paper_of(web, ties)
                few = len(ties) == len(lists[0])
                seen[few] += 1
                if few:
                    self.check_told(web, told)
                    self.assertEqual(told[0], ties)
                else:
                    self.assertIsNone(told)
        self.assertGreater(min(seen.values()), 100)


class Parted(unittest.TestCase):
    def test_some(self):
        self.assertEqual(parted_by(STAR, [0, 1, 2], ("b", "c")), [("b",), ("c",)])
        self.assertEqual(parted_by(STAR, [0, 1, 2], ("b", "c", "d")), [("b",), ("c",), ("d",)])
        sides = [("a", "b", "c"), ("a", "b", "d"), ("a", "c", "d")]
        self.assertEqual(parted_by(cut=("a",), ties=[0, 1, 2], web=all_turned(STAR)), sides)
        # No tight cut has c.
        self.assertIsNone(parted_by(ROUND, [0, 1, 2], ("b", "c", "d")))
        # No cut is tight.
        self.assertIsNone(parted_by(ROUND, [0, 1, 2, 3], ("d",)))

    def test_a_tight_cut_is_parted_into_itself(self):
        for web in hanging_webs(83, 60, 6, 7):
            for ties in plain_meeters(web):
                for cut in plain_tights(web, ties):
                    self.assertEqual(parted_by(web, ties, cut), [cut])

    def test_of_many_meeters(self):
        seen = {}
        for web in hanging_webs(84, 60, 6, 7):
            cuts = plain_cuts(web)
            for ties in plain_meeters(web):
                tights = plain_tights(web, ties)
                for cut in cuts:
                    told = parted_by(web, ties, cut)
                    self.check_parts(web, ties, cut, tights, told)
                    many = None if told is None else len(told)
                    seen[many] = seen.get(many, 0) + 1
        self.assertGreater(min(seen[None], seen[1], seen[2], seen[3]), 20)

    def check_parts(self, web, ties, cut, tights, told):
        over = [(one, other) for one in cut for other in others(web, cut)
                if all(other in tight for tight in tights if one in tight)]
        if over:
            self.assertIsNone(told)
            # By trying: there is no such list.
            self.assertFalse(any_parting(web, plain_ties(web, cut), tights))
            return
        self.assertIsInstance(told, list)
        self.assertEqual(told, sorted(set(told)))
        self.assertLessEqual(set(told), set(tights))
        self.assertEqual(sorted(k for part in told for k in plain_ties(web, part)), plain_ties(web, cut))

    def test_twelve_places(self):
        chance = random.Random(85)
        seen = 0
        for web in large_webs(86, 6):
            ties = lean_list(web, chance)
            tights = plain_tights(web, ties)
            cuts = plain_cuts(web)
            sums = [tuple(sorted(set(one) | set(other))) for one in tights for other in tights]
            picked = [cut for cut in sorted(set(sums)) if cut in cuts and cut not in tights]
            for cut in chance.sample(picked, min(25, len(picked))) + chance.sample(cuts, min(15, len(cuts))):
                told = parted_by(web, ties, cut)
                if told is not None:
                    seen += len(told) > 1
                    self.assertLessEqual(set(told), set(tights))
                    self.assertEqual(sorted(k for part in told for k in plain_ties(web, part)), plain_ties(web, cut))
        self.assertGreater(seen, 10)


def any_parting(web, left, tights):
    """Whether some of the tight cuts share no tie and have just these ties."""
    if not left:
        return True
    for cut in tights:
        held = plain_ties(web, cut)
        if left[0] in held and set(held) <= set(left):
            if any_parting(web, [k for k in left if k not in held], tights):
                return True
    return False


class IsPaper(unittest.TestCase):
    GOOD = ([0, 1, 2], [("b",), ("c",), ("d",)])
    WRONG = [
        # Too few cuts or too many, or ties that are no meeter.
        ([0, 1, 2], []), ([0, 1, 2], [("b",), ("c",)]), ([0, 1, 2], [("b",), ("b", "c"), ("c",), ("d",)]),
        ([0, 1], [("b",), ("c",)]), ([], []), ([0, 1], [("b",), ("c",), ("d",)]),
        # Cuts that share a tie, out of order, twice.
        ([0, 1, 2], [("b",), ("b", "c"), ("d",)]), ([0, 1, 2], [("b",), ("d",), ("c",)]),
        ([0, 1, 2], [("d",), ("c",), ("b",)]), ([0, 1, 2], [("b",), ("b",), ("c",)]),
        ([0, 1, 2], [("b",), ("c",), ("d",), ("d",)]),
        # A list in the place of the tuple, and other kinds.
        [[0, 1, 2], [("b",), ("c",), ("d",)]], ((0, 1, 2), [("b",), ("c",), ("d",)]),
        ([0, 1, 2], (("b",), ("c",), ("d",))), ([0, 1, 2], [["b"], ["c"], ["d"]]), ([0, 1, 2], ["b", "c", "d"]),
        ([0, 1, 2],), ([0, 1, 2], [("b",), ("c",), ("d",)], []), ([("b",), ("c",), ("d",)], [0, 1, 2]),
        ([False, True, 2], [("b",), ("c",), ("d",)]), ([0, True, 2], [("b",), ("c",), ("d",)]),
        ([0, 1, 2, 2], [("b",), ("c",), ("d",)]), ([2, 1, 0], [("b",), ("c",), ("d",)]),
        ([0, 1, 3], [("b",), ("c",), ("d",)]), ([0, 1, 2, 3], [("b",), ("c",), ("d",)]),
        # Things that are no cuts.
        ([0, 1, 2], [("a",), ("c",), ("d",)]), ([0, 1, 2], [("b",), ("c",), ("z",)]), ([0, 1, 2], [(), ("c",), ("d",)]),
        ([0, 1, 2], [("b",), ("c",), None]), ([0, 1, 2], [None, None, None]), ([0, 1, 2], [0, 1, 2]),
        ([0, 1, 2], [("b",), ("c",), Stubborn()]), ([0, 1, 2], [("b",), ("c",), (Stubborn(),)]),
        ([0, 1, Stubborn()], [("b",), ("c",), ("d",)]), ([0, 1, 2], Stubborn()), (Stubborn(), Stubborn()),
        ([0, 1, 2], [{}, [], ()]), ([0, 1, 2], [("b",), ("c",), ({},)]), ([0, 1, 2], {}), ([0, 1, 2], None),
        (None, None), ("", ""), ({}, {}), (endless(), endless()), ([0, 1, 2], endless()), ([0, 1, 2], "bcd"),
        ([0, 1, 2], [("b",)] * 100000), ([0] * 100000, [("b",)]), ([0, 1, 2], [(("b",), 1), (("c",), 1), (("d",), 1)]),
    ]

    def test_listed(self):
        self.assertIs(is_paper(STAR, self.GOOD), True)
        self.assertIs(is_paper(thing=self.GOOD, web=STAR), True)
        for thing in self.WRONG + odd_things():
            self.assertIs(is_paper(STAR, thing), False)
            self.assertIs(is_paper(thing=thing, web=STAR), False)

    def test_of_a_web_that_does_not_hang(self):
        for web in apart():
            for thing in [([], []), ([0], [("a",)]), self.GOOD] + odd_things():
                self.assertIs(is_paper(web, thing), False)
            # Cuts without ties share none, but the web does not hang.
            some = plain_cuts(web)[:web.many()]
            self.assertIs(is_paper(web, (list(range(web.many())), some)), False)

    def test_papers_with_one_thing_changed(self):
        seen = {True: 0, False: 0}
        chance = random.Random(87)
        for web in hanging_webs(88, 150, 6, 9):
            cuts = plain_cuts(web)
            for each in range(6):
                ties, kept = paper(web)
                for some, one in [(ties, chance.randint(0, web.many())), (kept, chance.choice(cuts + [("z",)]))]:
                    deed = chance.randrange(5)
                    if deed == 0 and some:
                        some[chance.randrange(len(some))] = one
                        some.sort()
                    elif deed == 1:
                        some.append(one)
                    elif deed == 2 and some:
                        some.pop()
                if ties and ties[-1] >= web.many():
                    due = False
                else:
                    due = plain_paper(web, (ties, kept))
                seen[due] += 1
                self.assertIs(is_paper(web, (ties, kept)), due)
        self.assertGreater(min(seen.values()), 100)


class Refused(unittest.TestCase, Refusals):
    def test_apart(self):
        self.refuse_apart(lambda web, ties: paper(web))
        self.refuse_apart(lambda web, ties: paper(web=web))

    def test_paper_of(self):
        self.refuse_all(paper_of)
        self.refuse_all(lambda web, ties: paper_of(ties=ties, web=web))

    def test_parted_by(self):
        for cut in [("b",), ("z",), None]:
            self.refuse_all(lambda web, ties: parted_by(web, ties, cut))
            self.refuse_all(lambda web, ties: parted_by(cut=cut, ties=ties, web=web))

    def test_no_cut_behind_these(self):
        for thing in no_cuts() + odd_things() + [("a",), ("c", "b")]:
            with self.assertRaises(NoCut):
                parted_by(STAR, [0, 1, 2], thing)
            with self.assertRaises(NoCut):
                parted_by(web=STAR, ties=[0, 1, 2], cut=thing)


class TheWhole(unittest.TestCase):
    def test_other_names(self):
        for web in hanging_webs(89, 60):
            names = other_names(web)
            ties, cuts = paper(web)
            self.assertIs(is_paper(with_names(web, names), (ties, put_all(names, cuts))), True)

    def test_all_ties_turned(self):
        for web in hanging_webs(90, 60):
            ties, cuts = paper(web)
            self.assertIs(is_paper(all_turned(web), (ties, sorted(others(web, cut) for cut in cuts))), True)


class Kept(unittest.TestCase):
    def test_nothing_changes_and_told_is_the_askers_own(self):
        before = state(STAR)
        ties = [0, 1, 2]
        for ask in [lambda: paper(STAR), lambda: paper_of(STAR, ties), lambda: (parted_by(STAR, ties, ("b", "c")),)]:
            told = ask()
            kept = repr(told)
            for part in told:
                part.append(9)
                part.reverse()
            self.assertEqual(repr(ask()), kept)
        self.assertEqual(ties, [0, 1, 2])
        told = paper(STAR)
        is_paper(STAR, told)
        self.assertEqual(told, paper(STAR))
        self.assertEqual(state(STAR), before)


if __name__ == "__main__":
    unittest.main()
