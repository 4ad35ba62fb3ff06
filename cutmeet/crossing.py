"""Families of cuts: those that cross, their meet and their join."""

from cutmeet.cuts import check_cut, ties_of
from cutmeet.errors import NoCut


def check_family(web, family):
    """Refuse what is no list of cuts of the web."""
    if not isinstance(family, list):
        raise NoCut("a family is a list of cuts")
    for cut in family:
        check_cut(web, cut)


def had_by_both(web, places, others):
    """The places that both sets have, rising."""
    return tuple([place for place in web.places() if place in places and place in others])


def had_by_one(web, places, others):
    """The places that one of both sets has at least, rising."""
    return tuple([place for place in web.places() if place in places or place in others])


def are_crossing(web, cut, other):
    """Whether two cuts, known to be such, cross."""
    inner = len(had_by_both(web, cut, other))
    outer = len(had_by_one(web, cut, other))
    return 1 <= inner < min(len(cut), len(other)) and outer < len(web.places())


def cross(web, cut, other):
    """Whether two cuts cross."""
    check_family(web, [cut, other])
    return are_crossing(web, cut, other)


def meet(web, cut, other):
    """The places that both cuts have."""
    check_family(web, [cut, other])
    return had_by_both(web, cut, other)


def join(web, cut, other):
    """The places that one of both cuts has at least."""
    check_family(web, [cut, other])
    return had_by_one(web, cut, other)


def entered(web, family):
    """For each tie in how many cuts of the family it lies."""
    check_family(web, family)
    found = [0] * web.many()
    for cut in family:
        for k in ties_of(web, cut):
            found[k] += 1
    return found
