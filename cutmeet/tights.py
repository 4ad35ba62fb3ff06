"""Tight cuts of a meeter: those that have just one of its ties."""

from cutmeet.bares import check_hangs
from cutmeet.errors import NoTie
from cutmeet.meeters import check_list, check_meeter, check_meets, freed, missed_by
from cutmeet.names import is_whole
from cutmeet.narrows import narrowest
from cutmeet.ways import reached, spread
from cutmeet.webs import check_place


def without(ties, k):
    """The list of ties but this one."""
    return [other for other in ties if other != k]


def least_tight(web, ties, k):
    """A tight cut of the meeter that has this tie of it, or None."""
    # All that the tie's end reaches lies in each cut that has the tie and no other one of the meeter.
    inside = spread(freed(web, without(ties, k)), web.tie(k)[1])
    return None if len(inside) == len(web.places()) else tuple(inside)


def wanted_of(web, ties):
    """The ties without which the meeter is none."""
    return [k for k in ties if least_tight(web, ties, k) is not None]


def tights_at(web, ties, place, need):
    """Some cuts with just so many of the ties, all having the place: what these have in common all such cuts have.
    There must be no cut with fewer of the ties than are needed."""
    below = reached(web, place)
    found = []
    for other in web.places():
        if other not in below and all([other in cut for cut in found]):
            cut = narrowest(web, ties, place, other, need)
            if cut is not None:
                found.append(cut)
    return found


def tights_by_place(web, ties, need):
    """For each place such cuts."""
    return {place: tights_at(web, ties, place, need) for place in web.places()}


def had_by_all(web, cuts):
    """The places that all these cuts have: all places where there are no cuts."""
    return [place for place in web.places() if all([place in cut for cut in cuts])]


def wanted(web, ties):
    """The ties of the meeter that a tight cut has, rising."""
    check_meeter(web, ties)
    return wanted_of(web, ties)


def tight_of(web, ties, k):
    """A tight cut that has this tie of the meeter, or None."""
    check_hangs(web)
    check_list(web, ties)
    if not is_whole(k) or k not in ties:
        raise NoTie("it is no tie of the list")
    check_meets(web, ties)
    return least_tight(web, ties, k)


def goes_over(web, ties, place):
    """All places to which the place goes over, rising."""
    check_meeter(web, ties)
    check_place(web, place)
    return had_by_all(web, tights_at(web, ties, place, 1))


def exchanges(web, ties):
    """All tuples of a tie of the meeter and one that may stand in its stead, rising."""
    check_meeter(web, ties)
    found = []
    for k in ties:
        for other in range(web.many()):
            if other not in ties and missed_by(web, without(ties, k) + [other]) is None:
                found.append((k, other))
    return found
