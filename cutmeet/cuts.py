"""Cuts: sets of places into which ties only come."""

from cutmeet.errors import NoCut, TooMany
from cutmeet.ways import reached, reachers
from cutmeet.webs import is_among

MOST_CUTS = 1022


def is_part(places, thing):
    """Whether it is a rising tuple of some of these places, of one at least and not of all."""
    if not isinstance(thing, tuple) or not 1 <= len(thing) < len(places):
        return False
    if not all([is_among(places, place) for place in thing]):
        return False
    return list(thing) == sorted(set(thing))


def is_cut(web, thing):
    """Whether it is a cut of the web."""
    if not is_part(web.places(), thing):
        return False
    return not any([a in thing and b not in thing for a, b in web.ties()])


def check_cut(web, cut):
    """Refuse what is no cut of the web."""
    if not is_cut(web, cut):
        raise NoCut("it is no cut of the web")


def ties_of(web, cut):
    """The numbers of the ties that lead into a cut, rising."""
    check_cut(web, cut)
    return [k for k, (a, b) in enumerate(web.ties()) if a not in cut and b in cut]


def settled(state, places, answer):
    """The state with this answer for these places, too."""
    more = dict(state)
    for place in places:
        more[place] = answer
    return more


def both_settled(web, states, place):
    """The states, each with either answer for the place where it has none yet."""
    below = reached(web, place)
    above = reachers(web, place)
    found = []
    for state in states:
        if place in state:
            found.append(state)
        else:
            found.append(settled(state, below, True))
            found.append(settled(state, above, False))
    return found


def all_cuts(web):
    """All cuts of the web, rising."""
    # A state tells of some places whether they are in: what is in draws in all that it reaches, what is out keeps
    # out all that reach it. So each state comes to one cut at least, or to no place or all of them.
    states = [{}]
    for place in web.places():
        states = both_settled(web, states, place)
        if len(states) > MOST_CUTS + 2:
            raise TooMany("the web has more cuts than are told")
    sets = [tuple([place for place in web.places() if state[place]]) for state in states]
    return sorted([places for places in sets if 1 <= len(places) < len(web.places())])
