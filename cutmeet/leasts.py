"""The least and the greatest cut that have one place and lack another one."""

from cutmeet.ways import reached, reachers
from cutmeet.webs import check_place


def least(web, one, other):
    """The cut that lies within each cut that has one and lacks other, or None."""
    check_place(web, other)
    inside = reached(web, one)
    return None if other in inside else tuple(inside)


def greatest(web, one, other):
    """The cut within which each cut lies that has one and lacks other, or None."""
    check_place(web, one)
    outside = reachers(web, other)
    if one in outside:
        return None
    return tuple([place for place in web.places() if place not in outside])


def least_of(web, k):
    """The least cut among whose ties this one is, or None."""
    a, b = web.tie(k)
    return least(web, b, a)
