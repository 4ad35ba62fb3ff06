"""Lists of ties, and those that meet every cut."""

from cutmeet.bares import check_hangs
from cutmeet.errors import NoMeeter, NoTie
from cutmeet.names import is_whole
from cutmeet.ways import leads, spread, turned_pairs


def are_ties(web, thing):
    """Whether it is a rising list of numbers of ties of the web."""
    if not isinstance(thing, list) or len(thing) > web.many():
        return False
    if not all([is_whole(k) and 0 <= k < web.many() for k in thing]):
        return False
    return thing == sorted(set(thing))


def check_list(web, ties):
    """Refuse what is no list of ties of the web."""
    if not are_ties(web, ties):
        raise NoTie("it is no list of ties of the web")


def freed(web, ties):
    """The places to which steps lead where these ties are gone in either direction, all others as they lead."""
    turned = turned_pairs([web.tie(k) for k in ties])
    return leads(web.places(), web.ties() + turned)


def missed_by(web, ties):
    """A cut that does not have one of these ties, known to be such, or None."""
    steps = freed(web, ties)
    for place in web.places():
        inside = spread(steps, place)
        if len(inside) < len(web.places()):
            return tuple(inside)
    return None


def missed(web, ties):
    """A cut that the ties do not meet, or None."""
    check_hangs(web)
    check_list(web, ties)
    return missed_by(web, ties)


def is_meeter(web, ties):
    """Whether the ties meet every cut."""
    return missed(web, ties) is None


def check_meets(web, ties):
    """Refuse a list of ties that does not meet every cut."""
    cut = missed_by(web, ties)
    if cut is not None:
        raise NoMeeter(cut)


def check_meeter(web, ties):
    """Refuse a web that does not hang, what is no list of ties, and what does not meet every cut."""
    check_hangs(web)
    check_list(web, ties)
    check_meets(web, ties)
