import itertools
import random
import unittest

from cutmeet.crossing import cross
from cutmeet.cuts import is_cut
from cutmeet.errors import Apart, Crossed, NoCut, NoTree, Twice
from cutmeet.trees import cuts_of, tree_of
from cutmeet.webs import Web
from samples import (
    Stubborn, all_turned, apart, endless, families, hanging_webs, make, no_cuts, odd_things, others, plain_cross,
    plain_cuts, plain_ties, state,
)

LINE = make("a b c d", "ab bc cd")
STAR = make("a b c d e", "ab ac ad ae")
SINK = make("a b c d e", "ba ca da ea")
# Places on both sides of the least one.
BOTH = make("a b c d e", "ab bc da ed")


def plain_tree(web, family):
    """The tree by the letter of the point, as sets."""
    low = web.places()[0]
    far = [set(cut) if low not in cut else set(others(web, cut)) for cut in family]

    def knot(wider):
        return min(wider, key=lambda at: len(far[at])) + 1 if wider else 0

    parents = [knot([at for at, side in enumerate(far) if side > mine]) for mine in far]
    senses = ["in" if low not in cut else "out" for cut in family]
    seats = [knot([at for at, side in enumerate(far) if place in side]) for place in web.places()]
    return (parents, senses, seats)


def uncrossed_families(web, seed, many):
    """Uncrossed families of unlike cuts, as large as they come."""
    chance = random.Random(seed)
    cuts = plain_cuts(web)
    found = [[]]
    for each in range(many):
        family = []
        for cut in chance.sample(cuts, len(cuts)):
            if chance.random() < 0.8 and not any(plain_cross(web, cut, other) for other in family):
                family.append(cut)
        found.append(family)
    return found


class Trees(unittest.TestCase):
    def test_without_a_cut(self):
        self.assertEqual(tree_of(LINE, []), ([], [], [0, 0, 0, 0]))
        self.assertEqual(tree_of(make("a", ""), []), ([], [], [0]))
        self.assertEqual(cuts_of(LINE, ([], [], [0, 0, 0, 0])), [])
        self.assertEqual(cuts_of(make("a", "aa"), ([], [], [0])), [])

    def test_one_cut(self):
        self.assertEqual(tree_of(LINE, [("c", "d")]), ([0], ["in"], [0, 0, 1, 1]))
        self.assertEqual(tree_of(SINK, [("a", "c")]), ([0], ["out"], [0, 1, 0, 1, 1]))
        self.assertEqual(cuts_of(tree=([0], ["out"], [0, 1, 0, 1, 1]), web=SINK), [("a", "c")])

    def test_within_one_another(self):
        family = [("c", "d"), ("b", "c", "d"), ("d",)]
        self.assertEqual(tree_of(family=family, web=LINE), ([2, 0, 1], ["in", "in", "in"], [0, 2, 1, 3]))
        family = [("a",), ("a", "b", "c"), ("a", "b")]
        self.assertEqual(tree_of(SINK, family), ([0, 3, 1], ["out"] * 3, [0, 1, 3, 2, 2]))

    def test_side_by_side(self):
        family = [("d",), ("b",), ("b", "c"), ("e",)]
        self.assertEqual(tree_of(STAR, family), ([0, 3, 0, 0], ["in"] * 4, [0, 2, 3, 1, 4]))

    def test_on_both_sides_of_the_least_place(self):
        family = [("c",), ("a", "b", "c"), ("b", "c"), ("a", "b", "c", "d")]
        self.assertEqual(tree_of(BOTH, family), ([3, 0, 0, 2], ["in", "out", "in", "out"], [0, 3, 1, 2, 4]))
        self.assertEqual(cuts_of(BOTH, ([3, 0, 0, 2], ["in", "out", "in", "out"], [0, 3, 1, 2, 4])), family)

    def test_names_that_are_not_in_order(self):
        web = Web(["z", "aa", "a", "longname"], [("z", "aa"), ("a", "aa"), ("longname", "z")])
        self.assertEqual(tree_of(web, [("a", "aa"), ("aa",)]), ([0, 0], ["out", "in"], [0, 2, 1, 1]))

    def test_many(self):
        deep = 0
        for web in hanging_webs(53, 150, 7, 9):
            for family in uncrossed_families(web, 54, 3):
                kept = list(family)
                told = tree_of(web, family)
                self.assertEqual(told, plain_tree(web, family))
                self.assertIsInstance(told, tuple)
                self.assertEqual(cuts_of(web, told), family)
                self.assertEqual(family, kept)
                deep += sum(parent != 0 for parent in told[0])
        self.assertGreater(deep, 200)

    def test_each_tie_goes_forward_alone(self):
        """Up by knots that are out, then down by ones that are in: just the cuts in which it lies."""
        for web in hanging_webs(55, 100, 7, 9):
            for family in uncrossed_families(web, 56, 2):
                parents, senses, seats = tree_of(web, family)
                seat = dict(zip(web.places(), seats))
                for k, (a, b) in enumerate(web.ties()):
                    up, down = above(parents, seat[a]), above(parents, seat[b])
                    gone = [knot for knot in up if knot not in down]
                    come = [knot for knot in down if knot not in up]
                    self.assertEqual({senses[knot - 1] for knot in gone} - {"out"}, set())
                    self.assertEqual({senses[knot - 1] for knot in come} - {"in"}, set())
                    due = [at + 1 for at, cut in enumerate(family) if k in plain_ties(web, cut)]
                    self.assertEqual(sorted(gone + come), due)

    def test_twelve_places(self):
        star = Web(list("abcdefghijkl"), [("a", other) for other in "bcdefghijkl"])
        family = [(one,) for one in "bcdefghijkl"] + [tuple("bcdefghijkl"[:size]) for size in range(2, 12)]
        self.assertEqual(len(family), 21)
        told = tree_of(star, family)
        self.assertEqual(told, plain_tree(star, family))
        self.assertEqual(cuts_of(star, told), family)


def above(parents, knot):
    found = []
    while knot != 0:
        found.append(knot)
        knot = parents[knot - 1]
    return found


class Refused(unittest.TestCase):
    def test_apart_first(self):
        for web in apart():
            places = len(web.places())
            for family in [[], [("z",)], [None], [("a",), ("a",)]] + [[thing] for thing in odd_things()]:
                self.refuse_apart(web, lambda: tree_of(web, family))
                self.refuse_apart(web, lambda: tree_of(web=web, family=family))
            for tree in [([], [], [0] * places), None, ([0], ["in"], [0] * places)] + odd_things():
                self.refuse_apart(web, lambda: cuts_of(web, tree))
                self.refuse_apart(web, lambda: cuts_of(tree=tree, web=web))

    def refuse_apart(self, web, deed):
        with self.assertRaises(Apart) as taken:
            deed()
        self.assertIs(is_cut(web, taken.exception.cut), True)
        self.assertEqual(plain_ties(web, taken.exception.cut), [])

    def test_no_cut_ahead_of_twice_and_crossed(self):
        for thing in no_cuts() + odd_things() + [("a",)]:
            for family in [[], [("b",), ("b",)], [("b", "c"), ("c", "d")], [("b", "c"), ("c", "d"), ("b", "c")]]:
                for at in range(len(family) + 1):
                    with self.assertRaises(NoCut):
                        tree_of(STAR, family[:at] + [thing] + family[at:])

    def refuse(self, kind, web, family, one, other):
        for deed in [lambda: tree_of(web, family), lambda: tree_of(family=family, web=web)]:
            with self.assertRaises(kind) as taken:
                deed()
            self.assertEqual((taken.exception.one, taken.exception.other), (one, other))

    def test_twice(self):
        self.refuse(Twice, STAR, [("b",), ("b",)], 0, 1)
        self.refuse(Twice, STAR, [("b",), ("c",), ("d",), ("c",), ("b",), ("d",)], 0, 4)
        self.refuse(Twice, STAR, [("e",), ("c",), ("c",), ("c",)], 1, 2)
        # Ahead of cuts that cross.
        self.refuse(Twice, STAR, [("b", "c"), ("c", "d"), ("e",), ("e",)], 2, 3)

    def test_crossed(self):
        self.refuse(Crossed, STAR, [("b", "c"), ("c", "d")], 0, 1)
        self.refuse(Crossed, STAR, [("b",), ("c", "d"), ("d", "e"), ("b", "c")], 1, 2)
        self.refuse(Crossed, STAR, [("b", "c"), ("d", "e"), ("c", "d", "e"), ("b",)], 0, 2)

    def test_many_families(self):
        seen = {Twice: 0, Crossed: 0, None: 0}
        for web in hanging_webs(57, 100, 7, 9):
            for family in families(web, 58, 6, 6):
                numbers = list(itertools.combinations(range(len(family)), 2))
                alike = [(i, j) for i, j in numbers if family[i] == family[j]]
                crossed = [(i, j) for i, j in numbers if plain_cross(web, family[i], family[j])]
                if alike:
                    self.refuse(Twice, web, family, *alike[0])
                elif crossed:
                    self.refuse(Crossed, web, family, *crossed[0])
                else:
                    self.assertEqual(tree_of(web, family), plain_tree(web, family))
                seen[Twice if alike else Crossed if crossed else None] += 1
        self.assertGreater(min(seen.values()), 20)


TREE = ([0, 1, 0], ["in", "in", "in"], [0, 1, 2, 3, 0])
NO_TREES = [
    # Other lengths.
    ([0, 1], ["in", "in", "in"], [0, 1, 2, 3, 0]), ([0, 1, 0], ["in", "in"], [0, 1, 2, 3, 0]),
    ([0, 1, 0], ["in", "in", "in"], [0, 1, 2, 3]), ([0, 1, 0], ["in", "in", "in"], [0, 1, 2, 3, 0, 0]),
    ([0, 1, 0, 0], ["in", "in", "in"], [0, 1, 2, 3, 0]), ([0, 1, 0], ["in", "in", "in", "in"], [0, 1, 2, 3, 0]),
    ([], [], []), ([], [], [0]), ([], [], [0] * 6), ([], ["in"], [0] * 5), ([0], [], [0] * 5),
    TREE[:2], TREE[1:], TREE + ([],), TREE + (0,), (), ([],), ([], []),
    # Parents and seats that are not there.
    ([4, 1, 0], ["in", "in", "in"], [0, 1, 2, 3, 0]), ([0, 1, -1], ["in", "in", "in"], [0, 1, 2, 3, 0]),
    ([0, -3, 0], ["in", "in", "in"], [0, 1, 2, 3, 0]), ([0, 1, 0], ["in", "in", "in"], [0, 1, 2, 4, 0]),
    ([0, 1, 0], ["in", "in", "in"], [0, 1, 2, -1, 0]), ([0, 1, 10 ** 40], ["in", "in", "in"], [0, 1, 2, 3, 0]),
    ([0, 1, 0], ["in", "in", "in"], [0, 1, 2, 3, 10 ** 40]),
    # Rings.
    ([1, 1, 0], ["in", "in", "in"], [0, 1, 2, 3, 0]), ([2, 1, 0], ["in", "in", "in"], [0, 1, 2, 3, 0]),
    ([2, 3, 1], ["in", "in", "in"], [0, 1, 2, 3, 0]), ([0, 2, 0], ["in", "in", "in"], [0, 1, 2, 3, 0]),
    ([1], ["in"], [0, 1, 0, 0, 0]), ([1], ["in"], [0, 0, 0, 0, 0]), ([2, 1], ["in", "in"], [0, 1, 2, 0, 0]),
    ([0, 3, 2], ["in", "in", "in"], [0, 1, 0, 0, 0]),
    # Senses that are neither word.
    ([0, 1, 0], ["in", "up", "in"], [0, 1, 2, 3, 0]), ([0, 1, 0], ["in", "in", ""], [0, 1, 2, 3, 0]),
    ([0, 1, 0], ["in", "in", "In"], [0, 1, 2, 3, 0]), ([0, 1, 0], ["in", "in", None], [0, 1, 2, 3, 0]),
    ([0, 1, 0], ["in", "in", True], [0, 1, 2, 3, 0]), ([0, 1, 0], ["in", "in", ["in"]], [0, 1, 2, 3, 0]),
    ([0, 1, 0], ["in", "in", b"in"], [0, 1, 2, 3, 0]), ([0, 1, 0], ["in", "in", Stubborn()], [0, 1, 2, 3, 0]),
    ([0, 1, 0], ["in", "in", "n"], [0, 1, 2, 3, 0]), ([0, 1, 0], ["in", "in", 0], [0, 1, 2, 3, 0]),
    # What would be no cut: nothing, all places, what a tie leaves.
    ([0], ["in"], [0, 0, 0, 0, 0]), ([0], ["out"], [0, 0, 0, 0, 0]), ([0], ["in"], [1, 1, 1, 1, 1]),
    ([0], ["out"], [1, 1, 1, 1, 1]), ([0], ["in"], [1, 0, 0, 0, 0]), ([0], ["in"], [1, 1, 0, 0, 0]),
    ([0], ["out"], [0, 1, 0, 0, 0]), ([0, 1, 0], ["in", "out", "in"], [0, 1, 2, 3, 0]),
    # Far sides with the least place in them.
    ([0], ["out"], [1, 0, 0, 0, 0]), ([0], ["out"], [1, 0, 1, 0, 0]),
    # Cuts alike.
    ([0, 1], ["in", "in"], [0, 2, 0, 0, 0]), ([0, 1], ["in", "in"], [0, 2, 2, 0, 0]),
    ([0, 1, 2], ["in", "in", "in"], [0, 1, 3, 0, 0]),
    # True and False in the place of numbers.
    ([False, 1, 0], ["in", "in", "in"], [0, 1, 2, 3, 0]), ([0, True, 0], ["in", "in", "in"], [0, 1, 2, 3, 0]),
    ([0, 1, 0], ["in", "in", "in"], [False, 1, 2, 3, 0]), ([0, 1, 0], ["in", "in", "in"], [0, True, 2, 3, 0]),
    # Lists in the place of the tuple, tuples in that of the lists.
    list(TREE), ((0, 1, 0), ["in", "in", "in"], [0, 1, 2, 3, 0]), ([0, 1, 0], ("in", "in", "in"), [0, 1, 2, 3, 0]),
    ([0, 1, 0], ["in", "in", "in"], (0, 1, 2, 3, 0)), ((), [], [0] * 5), ([], (), [0] * 5), ([], [], (0,) * 5),
    # Anything.
    (None, None, None), ([], [], None), (None, [], [0] * 5), ([], None, [0] * 5), ([0], "in", [0, 1, 0, 0, 0]),
    ("", "", [0] * 5), ({}, {}, {}), ([], {}, [0] * 5), ([None], ["in"], [0, 1, 0, 0, 0]),
    (["0"], ["in"], [0, 1, 0, 0, 0]), ([0], ["in"], [0, "1", 0, 0, 0]), ([0], ["in"], [0, None, 0, 0, 0]),
    ([0], ["in"], [0, [1], 0, 0, 0]), ([Stubborn()], ["in"], [0, 1, 0, 0, 0]), ([0], ["in"], [0, Stubborn(), 0, 0, 0]),
    (Stubborn(), Stubborn(), Stubborn()), (endless(), endless(), endless()), ([[0]], ["in"], [0, 1, 0, 0, 0]),
    ([1j], ["in"], [0, 1, 0, 0, 0]), ([0] * 50000, ["in"] * 50000, [0] * 5), (b"", b"", b"\x00" * 5),
    (list(range(3000)), ["in"] * 3000, [3000] * 5),
]


class NoTrees(unittest.TestCase):
    def refuse(self, web, thing):
        with self.assertRaises(NoTree):
            cuts_of(web, thing)
        with self.assertRaises(NoTree):
            cuts_of(tree=thing, web=web)

    def test_listed(self):
        self.assertEqual(cuts_of(STAR, TREE), [("b", "c"), ("c",), ("d",)])
        for thing in NO_TREES + odd_things():
            self.refuse(STAR, thing)
        self.refuse(make("a", ""), ([0], ["in"], [1]))
        self.refuse(make("a", ""), ([0], ["out"], [0]))
        self.refuse(make("a b c", "ab bc ca"), ([0], ["in"], [0, 1, 1]))

    def test_all_small_trees(self):
        """Of webs of three places all trees of up to two cuts: just those of families are read."""
        for web in [make("a b c", "ab ac"), make("a b c", "ab bc"), make("a b c", "ba ca"), make("a b c", "ba bc"),
                    make("a b c", "ca ab"), make("a b c", "ab ba bc")]:
            cuts = plain_cuts(web)
            due = {}
            for many in range(3):
                for family in itertools.permutations(cuts, many):
                    if not any(cross(web, one, other) for one in family for other in family):
                        due[repr(tree_of(web, list(family)))] = list(family)
            for many in range(3):
                knots = list(range(many + 1))
                for parents in itertools.product(knots, repeat=many):
                    for senses in itertools.product(["in", "out"], repeat=many):
                        for seats in itertools.product(knots, repeat=3):
                            tree = (list(parents), list(senses), list(seats))
                            if repr(tree) in due:
                                self.assertEqual(cuts_of(web, tree), due.pop(repr(tree)))
                            else:
                                self.refuse(web, tree)
            self.assertEqual(due, {})

    def test_trees_with_one_thing_changed(self):
        seen = {True: 0, False: 0}
        chance = random.Random(59)
        for web in hanging_webs(60, 80, 6, 8):
            for family in uncrossed_families(web, 61, 2):
                tree = tree_of(web, family)
                at = chance.randrange(3)
                if tree[at]:
                    thing = chance.choice(["in", "out"]) if at == 1 else chance.randint(0, len(family))
                    tree[at][chance.randrange(len(tree[at]))] = thing
                    seen[self.check_read(web, tree)] += 1
        self.assertGreater(min(seen.values()), 20)

    def check_read(self, web, tree):
        try:
            family = cuts_of(web, tree)
        except NoTree:
            return False
        self.assertEqual(tree_of(web, family), tree)
        return True


class Kept(unittest.TestCase):
    def test_nothing_changes_and_told_is_the_askers_own(self):
        before = state(STAR)
        family = [("b", "c"), ("c",), ("d",)]
        told = tree_of(STAR, family)
        for part in told:
            part.append(9)
            part.reverse()
        self.assertEqual(tree_of(STAR, family), TREE)
        tree = ([0, 1, 0], ["in", "in", "in"], [0, 1, 2, 3, 0])
        cuts = cuts_of(STAR, tree)
        cuts.append(("z",))
        self.assertEqual(cuts_of(STAR, tree), family)
        self.assertEqual(tree, TREE)
        self.assertEqual(state(STAR), before)

    def test_all_ties_turned(self):
        """The far sides stay, the senses are turned."""
        turn = {"in": "out", "out": "in"}
        for web in hanging_webs(62, 40, 6, 8):
            for family in uncrossed_families(web, 63, 2):
                parents, senses, seats = tree_of(web, family)
                due = (parents, [turn[sense] for sense in senses], seats)
                self.assertEqual(tree_of(all_turned(web), [others(web, cut) for cut in family]), due)


if __name__ == "__main__":
    unittest.main()
