"""Webs with a tie more or less, with other names, and joined."""

from cutmeet.errors import NoNames, NoWeb
from cutmeet.names import is_name
from cutmeet.webs import Web, check_place, is_among


def with_tie(web, one, other):
    """The web with a tie more, from one to other, behind all others."""
    check_place(web, one)
    check_place(web, other)
    return Web(web.places(), web.ties() + [(one, other)])


def without_tie(web, k):
    """The web without this tie."""
    web.tie(k)
    return Web(web.places(), web.ties()[:k] + web.ties()[k + 1:])


def check_names(web, names):
    """Refuse what is no dict of just the web's places, each with a name of its own."""
    if not isinstance(names, dict) or len(names) != len(web.places()):
        raise NoNames("there is one name for each place")
    if not all([is_among(web.places(), place) and is_name(name) for place, name in names.items()]):
        raise NoNames("each place has a name, and nothing else has")
    if len({name for name in names.values()}) < len(names):
        raise NoNames("no two places have one name")


def renamed(web, names):
    """The web with these names in its places' stead."""
    check_names(web, names)
    return Web(list(names.values()), [(names[a], names[b]) for a, b in web.ties()])


def joined(web, other):
    """Both webs as one, where they have one place in common."""
    own = [place for place in other.places() if place not in web.places()]
    if len(other.places()) - len(own) != 1:
        raise NoWeb("webs that are joined have one place in common")
    return Web(web.places() + own, web.ties() + other.ties())
