"""What the document promises over the whole program, where several files have a part in it."""

import random
import unittest

from cutmeet.bares import is_bare, parted
from cutmeet.breaking import breakers
from cutmeet.changes import joined, renamed, with_tie, without_tie
from cutmeet.crossing import cross, entered, join, meet
from cutmeet.cuts import all_cuts, is_cut, ties_of
from cutmeet.desk import Desk
from cutmeet.drawn import bundles, drawn, idle, undrawn
from cutmeet.flats import Flat
from cutmeet.leasts import greatest, least, least_of
from cutmeet.meeters import is_meeter, missed
from cutmeet.needs import is_needs_paper, needs_paper
from cutmeet.papers import is_paper, paper, paper_of, parted_by
from cutmeet.rings import cut_ring, ring_cut, rings
from cutmeet.rounds import fewest, how_few, made_less
from cutmeet.shows import read_row, show_cuts, show_web
from cutmeet.tights import exchanges, goes_over, tight_of, wanted
from cutmeet.trees import cuts_of, tree_of
from cutmeet.turned import bridges, fewest_turned, is_lean, made_lean, turned_about
from cutmeet.uncrossing import stepped, steps_of, uncrossed
from cutmeet.ways import all_reach, clumps, hangs, reached, way
from cutmeet.webs import Web
from cutmeet.webtexts import read_web, web_text
from cutmeet.weights import full_paper, how_light, is_full_paper, lightest
from samples import (
    all_lists, all_webs, apart, families, flat_pairs, hanging, hanging_webs, large_webs, make, other_names, others,
    plain_meeters, put, put_all, state,
)


def unlike(family):
    """The cuts of a family, each once, in their order."""
    return list(dict.fromkeys(family))


def chain(parents, knot):
    """The knots from this one up to 0."""
    found = []
    while knot:
        found.append(knot)
        knot = parents[knot - 1]
    return found


class Cuts(unittest.TestCase):
    def test_no_cut_just_where_all_reach_all(self):
        for web in all_webs(220, 120) + apart():
            self.assertIs(all_reach(web), all_cuts(web) == [])
            for k, (a, b) in enumerate(web.ties()):
                cut = least_of(web, k)
                self.assertIs(cut is None, way(web, b, a) is not None)
                self.assertIs(cut is None, k in idle(web))
                if cut is not None:
                    self.assertIn(k, ties_of(web, cut))
                    self.assertIn(cut, all_cuts(web))

    def test_what_does_not_cross_is_laid_on_a_tree(self):
        seen = 0
        for web in hanging(all_webs(221, 80)):
            for family in families(web, 222, 3, 8):
                after, steps = uncrossed(web, family)
                self.assertEqual(entered(web, after), entered(web, family))
                cuts = unlike(after)
                parents, senses, seats = tree_of(web, cuts)
                self.assertEqual(cuts_of(web, (parents, senses, seats)), cuts)
                seat = dict(zip(web.places(), seats))
                for k, (a, b) in enumerate(web.ties()):
                    ups, downs = chain(parents, seat[a]), chain(parents, seat[b])
                    gone = [knot for knot in ups if knot not in downs]
                    come = [knot for knot in downs if knot not in ups]
                    self.assertEqual({senses[knot - 1] for knot in gone} - {"out"}, set())
                    self.assertEqual({senses[knot - 1] for knot in come} - {"in"}, set())
                    held = [at + 1 for at, cut in enumerate(cuts) if k in ties_of(web, cut)]
                    self.assertEqual(sorted(gone + come), held)
                    seen += len(held)
        self.assertGreater(seen, 200)

    def test_a_tie_more_makes_no_cut(self):
        for web in all_webs(223, 40):
            cuts = all_cuts(web)
            for one in web.places():
                for other in web.places():
                    told = all_cuts(with_tie(web, one, other))
                    self.assertLessEqual(set(told), set(cuts))
                    self.assertEqual(told == cuts, other in reached(web, one))
            for k in range(web.many()):
                self.assertLessEqual(set(cuts), set(all_cuts(without_tie(web, k))))


class Papers(unittest.TestCase):
    def test_ties_and_cuts_told(self):
        for web in hanging_webs(224, 60, 7, 12) + large_webs(225, 4):
            ties, cuts = paper(web)
            self.assertIs(all_reach(drawn(web, ties)), True)
            self.assertIs(is_meeter(web, ties), True)
            self.assertIs(is_lean(web, ties), True)
            self.assertEqual(made_lean(web, ties), ties)
            self.assertEqual(len(fewest(web)), len(ties))
            self.assertLessEqual(max(entered(web, cuts), default=0), 1)
            self.assertEqual(len(cuts), len(ties))
            for cut in cuts:
                self.assertIs(is_bare(web, cut), True)
            self.assertIs(is_needs_paper(web, 1, (ties, [(cut, 1) for cut in cuts])), True)
            self.assertIs(is_full_paper(web, [1] * web.many(), (ties, [(cut, 1) for cut in cuts])), True)
            if not bridges(web):
                self.assertIs(all_reach(turned_about(web, fewest_turned(web))), True)

    def test_flat_webs(self):
        for web, turns in flat_pairs(226, 80, 7, 7):
            flat = Flat(web, turns)
            other = flat.other_web().web()
            self.assertEqual(sorted(cut_ring(flat, cut) for cut in all_cuts(web) if is_bare(web, cut)), rings(other))
            # The ties that meet all cuts are just those that break all rings.
            if web.many() <= 7:
                for ties in all_lists(web.many()):
                    broken = all(set(ring) & set(ties) for ring in rings(other))
                    self.assertIs(is_meeter(web, ties), broken)
            self.assertEqual(len(breakers(flat.other_web())[0]), how_few(web))


class IdleTies(unittest.TestCase):
    def more_webs(self, seed):
        """Webs that hang, and the same with ties more that lie in no cut."""
        chance = random.Random(seed)
        for web in hanging_webs(seed, 60, 6, 8):
            more = web
            for each in range(3):
                clump = chance.choice(clumps(web))
                more = with_tie(more, chance.choice(clump), chance.choice(clump))
            yield (web, more)

    def test_they_have_no_part_in_what_is_told_of_cuts(self):
        for web, more in self.more_webs(227):
            self.assertLessEqual({web.many(), web.many() + 1, web.many() + 2}, set(idle(more)))
            self.assertEqual(all_cuts(more), all_cuts(web))
            for cut in all_cuts(web):
                self.assertEqual(ties_of(more, cut), ties_of(web, cut))
                self.assertEqual([is_cut(more, part) for part in parted(more, cut)], [True] * len(parted(more, cut)))
            for told in [paper(more)[0], fewest(more), needs_paper(more, 1)[0], lightest(more, [1] * more.many()),
                         made_lean(more, list(range(more.many()))), wanted(more, list(range(more.many())))]:
                self.assertEqual(set(told) & set(idle(more)), set())
            self.assertEqual(how_few(more), how_few(web))
            self.assertIs(is_paper(web, paper(more)), True)
            self.assertIs(is_paper(more, paper(web)), True)
            weights = [k * 7 + 1 for k in range(more.many())]
            self.assertEqual(how_light(more, weights), how_light(web, weights[:web.many()]))
            self.assertEqual(entered(more, all_cuts(web))[:web.many()], entered(web, all_cuts(web)))
            self.assertEqual(set(entered(more, all_cuts(web))[web.many():]), {0})
            for place in web.places():
                ties = fewest(web)
                self.assertEqual(goes_over(more, ties, place), goes_over(web, ties, place))


class Named(unittest.TestCase):
    """Other names, and all ties turned, change what is told as they are told themselves."""

    def test_other_names(self):
        for web in all_webs(228, 50):
            names = other_names(web)
            named = renamed(web, names)
            self.assertEqual(all_cuts(named), put_all(names, all_cuts(web)))
            self.assertEqual(idle(named), idle(web))
            self.assertEqual(clumps(named), put_all(names, clumps(web)))
            for one in web.places():
                self.assertEqual(reached(named, names[one]), sorted(names[place] for place in reached(web, one)))
                for other in web.places():
                    for ask in [least, greatest]:
                        cut = ask(web, one, other)
                        due = None if cut is None else put(names, cut)
                        self.assertEqual(ask(named, names[one], names[other]), due)
            ties = list(range(0, web.many(), 2))
            due = {tuple(sorted(names[place] for place in web.places() if bundles(web, ties)[place] == name))
                   for name in drawn(web, ties).places()}
            told = {tuple(place for place in named.places() if bundles(named, ties)[place] == name)
                    for name in drawn(named, ties).places()}
            self.assertEqual(told, due)

    def test_all_ties_turned(self):
        for web in all_webs(229, 50):
            turned = turned_about(web, list(range(web.many())))
            self.assertEqual(all_cuts(turned), sorted(others(web, cut) for cut in all_cuts(web)))
            self.assertEqual((idle(turned), clumps(turned)), (idle(web), clumps(web)))
            for cut in all_cuts(web):
                self.assertEqual(ties_of(turned, others(web, cut)), ties_of(web, cut))
            for one in web.places():
                for other in web.places():
                    cut = least(web, one, other)
                    due = None if cut is None else others(web, cut)
                    self.assertEqual(greatest(turned, other, one), due)

    def test_both_of_meeters(self):
        for web in hanging_webs(230, 30, 5, 7):
            names = other_names(web)
            named = renamed(web, names)
            turned = turned_about(web, list(range(web.many())))
            self.assertEqual((how_few(named), how_few(turned)), (how_few(web), how_few(web)))
            for ties in plain_meeters(web):
                for other in [named, turned]:
                    self.assertIs(is_meeter(other, ties), True)
                    self.assertEqual(wanted(other, ties), wanted(web, ties))
                    self.assertEqual(exchanges(other, ties), exchanges(web, ties))
                    self.assertEqual(made_lean(other, ties), made_lean(web, ties))
                    self.assertIs(made_less(other, ties) is None, made_less(web, ties) is None)
                for place in web.places():
                    due = sorted(names[one] for one in goes_over(web, ties, place))
                    self.assertEqual(goes_over(named, ties, names[place]), due)
                    back = [one for one in web.places() if place in goes_over(web, ties, one)]
                    self.assertEqual(goes_over(turned, ties, place), back)


class ToldAndHandedIn(unittest.TestCase):
    """What was told may be handed in again, whatever its size."""

    def test_all_cuts(self):
        web = make("a b c d e f g h i j", "")
        cuts = all_cuts(web)
        self.assertEqual(len(cuts), 1022)
        self.assertEqual(entered(web, cuts), [])
        after, steps = uncrossed(web, cuts)
        self.assertEqual(len(after), 1022)
        self.assertEqual(steps_of(web, after), [])
        self.assertEqual(sum(len(cut) for cut in after), sum(len(cut) for cut in cuts))

    def test_steps_of_many_cuts(self):
        # Each two of so many cuts: a star of eight places.
        web = make("a b c d e f g h", "ab ac ad ae af ag ah")
        cuts = all_cuts(web)
        self.assertEqual(len(cuts), 127)
        after, steps = uncrossed(web, cuts)
        family = cuts
        for step in steps:
            family = stepped(web, family, step)
        self.assertEqual((family, entered(web, after)), (after, entered(web, cuts)))
        tree = tree_of(web, unlike(after))
        self.assertEqual(cuts_of(web, tree), unlike(after))

    def test_papers_and_lists(self):
        for web in large_webs(231, 5):
            ties, cuts = paper(web)
            self.assertEqual(paper_of(web, ties)[0], ties)
            self.assertEqual(entered(web, cuts), [1 if count else 0 for count in entered(web, cuts)])
            self.assertIsNone(made_less(web, ties))
            self.assertIsNone(missed(web, ties))
            for k in ties:
                self.assertEqual(parted_by(web, ties, tight_of(web, ties, k)), [tight_of(web, ties, k)])
            weights = [999999999999] * 30
            self.assertIs(is_full_paper(web, weights, full_paper(web, weights)), True)
            for cut in all_cuts(web)[:50] if len(cuts) < 12 else []:
                for part in parted(web, cut):
                    self.assertIs(is_bare(web, part), True)

    def test_webs_and_texts(self):
        made = Desk()
        for web in all_webs(232, 40) + large_webs(233, 3):
            self.assertEqual(state(read_web(web_text(web))), state(web))
            self.assertEqual(state(read_row(show_web(web))), state(web))
            made.say(f"web n {show_web(web)}")
            made.say(f"web m {made.say('text n')}")
            self.assertEqual(made.say("text m"), show_web(web))
            self.assertEqual(state(Web(web.places(), web.ties())), state(web))
            self.assertEqual(made.say("idle m"), made.say("idle n"))
        made.say("web n places a b c d e f g h i j")
        for word in made.say("cuts n").split(" "):
            self.assertNotIn("*", word)
        self.assertEqual(made.say("cuts n"), show_cuts(all_cuts(read_row(made.say("text n")))))

    def test_rings_and_flats(self):
        for web, turns in flat_pairs(234, 30, 8, 8):
            flat = Flat(web, turns)
            again = Flat(flat.other_web().web(), flat.other_web().turns())
            for ring in rings(again.web()):
                self.assertEqual(cut_ring(flat, ring_cut(flat, ring)), ring)

    def test_drawn_webs(self):
        for web in all_webs(235, 30):
            ties = idle(web)
            self.assertEqual(state(renamed(web, {place: place for place in bundles(web, ties)})), state(web))
            for cut in all_cuts(drawn(web, ties)):
                self.assertIs(is_cut(web, undrawn(web, ties, cut)), True)
            # Once more by the same ties nothing is left to be drawn together.
            self.assertEqual(state(drawn(drawn(web, ties), ties)), state(drawn(web, ties)))

    def test_joined_webs(self):
        for web in hanging_webs(236, 20, 5, 8):
            other = renamed(web, {place: "q" + "abcdef"[at] if at else place for at, place in enumerate(web.places())})
            self.assertEqual(how_few(joined(web, other)), 2 * how_few(web))
            self.assertIs(hangs(joined(web, other)), True)

    def test_cuts_that_cross(self):
        for web in all_webs(237, 40):
            cuts = all_cuts(web)[:20]
            for one in cuts:
                for other in cuts:
                    if cross(web, one, other):
                        pair = [meet(web, one, other), join(web, one, other)]
                        self.assertEqual(entered(web, pair), entered(web, [one, other]))


if __name__ == "__main__":
    unittest.main()
