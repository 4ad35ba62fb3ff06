"""Uncrossed families of unlike cuts, laid on trees."""

from cutmeet.bares import check_hangs, lacked
from cutmeet.crossing import check_family
from cutmeet.errors import Crossed, NoCut, NoTree, Twice
from cutmeet.names import is_whole
from cutmeet.uncrossing import crossing_pairs, pairs_of


def check_unlike(family):
    """Refuse a family with a cut twice."""
    for i, j in pairs_of(len(family)):
        if family[i] == family[j]:
            raise Twice(i, j)


def check_uncrossed(web, family):
    """Refuse a family with a step."""
    steps = crossing_pairs(web, family)
    if steps:
        raise Crossed(steps[0][0], steps[0][1])


def has_least(web, cut):
    """Whether the cut has the web's least place."""
    return web.places()[0] in cut


def far_side(web, cut):
    """Of the cut and all other places those that lack the web's least place."""
    return tuple(lacked(web, cut)) if has_least(web, cut) else cut


def innermost(sides, inside, size):
    """The knot of the least far side that has these places and no less than so many, 0 where there is none."""
    knot = 0
    for at, side in enumerate(sides):
        if len(side) >= size and all([place in side for place in inside]):
            if knot == 0 or len(side) < len(sides[knot - 1]):
                knot = at + 1
    return knot


def tree_of(web, family):
    """The tree of a family: its parents, senses and seats."""
    check_hangs(web)
    check_family(web, family)
    check_unlike(family)
    check_uncrossed(web, family)
    sides = [far_side(web, cut) for cut in family]
    parents = [innermost(sides, side, len(side) + 1) for side in sides]
    senses = ["out" if has_least(web, cut) else "in" for cut in family]
    seats = [innermost(sides, (place,), 1) for place in web.places()]
    return (parents, senses, seats)


def are_knots(things, many):
    """Whether it is a list of knots of a tree of so many cuts."""
    return isinstance(things, list) and all([is_whole(thing) and 0 <= thing <= many for thing in things])


def are_senses(things):
    """Whether it is a list of senses."""
    return isinstance(things, list) and all([isinstance(thing, str) and thing in ("in", "out") for thing in things])


def is_treelike(web, thing):
    """Whether it is a tuple of lists such as a tree has, of lengths that go together."""
    if not isinstance(thing, tuple) or len(thing) != 3 or not are_senses(thing[1]):
        return False
    parents, senses, seats = thing
    if not are_knots(parents, len(senses)) or not are_knots(seats, len(senses)):
        return False
    # Sets that do not cross are fewer than twice the places: what is longer is not worth a walk.
    return len(parents) == len(senses) < 2 * len(web.places()) and len(seats) == len(web.places())


def knots_above(parents, knot):
    """The knots from this one up to a child of knot 0, this one too; of a ring each knot once."""
    above = []
    while knot != 0 and knot not in above:
        above.append(knot)
        knot = parents[knot - 1]
    return above


def cuts_on(web, tree):
    """The sets of places that would be the cuts of such a tree."""
    parents, senses, seats = tree
    above = {place: knots_above(parents, seat) for place, seat in zip(web.places(), seats)}
    found = []
    for at, sense in enumerate(senses):
        side = [place for place in web.places() if at + 1 in above[place]]
        found.append(tuple(side if sense == "in" else lacked(web, side)))
    return found


def cuts_of(web, tree):
    """The family of which this is the tree."""
    check_hangs(web)
    if not is_treelike(web, tree):
        raise NoTree("a tree has parents, senses and seats")
    family = cuts_on(web, tree)
    # A family's tree tells all its cuts: so no other family than this one can have the tree.
    try:
        own = tree_of(web, family)
    except (NoCut, Twice, Crossed):
        raise NoTree("no such family has this tree") from None
    if own != tree:
        raise NoTree("the family on these seats has another tree")
    return family
