"""Webs drawn together by some of their ties."""

from cutmeet.cuts import check_cut
from cutmeet.meeters import check_list
from cutmeet.ways import leads, reached, spread, turned_pairs
from cutmeet.webs import Web


def bundles(web, ties):
    """For each place the name of its bundle: the least place that is come to from it by these ties."""
    check_list(web, ties)
    pairs = [web.tie(k) for k in ties]
    steps = leads(web.places(), pairs + turned_pairs(pairs))
    return {place: spread(steps, place)[0] for place in web.places()}


def drawn(web, ties):
    """The web drawn together by these ties."""
    named = bundles(web, ties)
    return Web(sorted({named[place] for place in web.places()}), [(named[a], named[b]) for a, b in web.ties()])


def undrawn(web, ties, cut):
    """The places of the bundles that a cut of the drawn web has."""
    check_cut(drawn(web, ties), cut)
    named = bundles(web, ties)
    return tuple([place for place in web.places() if named[place] in cut])


def idle(web):
    """The ties that lie in no cut, rising."""
    return [k for k, (a, b) in enumerate(web.ties()) if a in reached(web, b)]
