"""Rings of a web, and bare cuts of a flat web, which are the rings of its other web."""

from cutmeet.bares import is_bare
from cutmeet.cuts import ties_of
from cutmeet.errors import NoCut, NoRing, TooMany
from cutmeet.meeters import are_ties
from cutmeet.rounds import unlisted
from cutmeet.ways import leads, pieces, spread
from cutmeet.webs import Web

MOST_RINGS = 1000


def leads_back(web, start, been, place):
    """Whether one comes from a place to the start by places behind the start that one has not been to."""
    free = [start] + [other for other in web.places() if other > start and other not in been]
    inner = [(a, b) for a, b in web.ties() if a in free and b in free]
    return place in free and start in spread(leads(free, inner), place)


def add_rings_from(web, start, found):
    """Add the rings whose least place is the start to those that are found."""
    ahead = [([], [start])]
    while ahead:
        gone, been = ahead.pop()
        for k, (a, b) in enumerate(web.ties()):
            if a == been[-1] and b == start:
                found.append(tuple(sorted(gone + [k])))
                if len(found) > MOST_RINGS:
                    raise TooMany("the web has more rings than are told")
            # What does not lead back is not gone on with: so each start of a ring comes to one at least.
            elif a == been[-1] and leads_back(web, start, been, b):
                ahead.append((gone + [k], been + [b]))


def rings(web):
    """All rings of the web, rising."""
    found = []
    for place in web.places():
        add_rings_from(web, place, found)
    return sorted(found)


def bare_cut_with(web, ties):
    """The bare cut of a web that hangs that has just these ties, or None."""
    sides = pieces(Web(web.places(), [web.tie(k) for k in unlisted(web, ties)]))
    if len(sides) != 2:
        return None
    # All of them lead into the one side, so that none leads out of it.
    for side in sides:
        if all([web.tie(k)[0] not in side and web.tie(k)[1] in side for k in ties]):
            return side
    return None


def ring_cut(flat, ring):
    """The bare cut of the flat web whose ties are this ring of its other web."""
    if not isinstance(ring, tuple) or not are_ties(flat.web(), list(ring)):
        raise NoRing("a ring is a rising tuple of numbers of ties")
    # Just the ties of a bare cut go round one of its sides in the other web.
    cut = bare_cut_with(flat.web(), ring)
    if cut is None:
        raise NoRing("it is no ring of the other web")
    return cut


def cut_ring(flat, cut):
    """The ring of the other web that the ties of this bare cut of the flat web are."""
    if not is_bare(flat.web(), cut):
        raise NoCut("the cut is not bare")
    return tuple(ties_of(flat.web(), cut))
