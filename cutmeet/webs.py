"""Webs: places, and ties that lead from one place to another."""

from cutmeet.errors import NoPlace, NoTie, NoWeb
from cutmeet.names import is_name, is_whole

MOST_PLACES = 12
MOST_TIES = 30


def check_places(places):
    """Refuse what is no list of the places of a web."""
    if not isinstance(places, list) or not 1 <= len(places) <= MOST_PLACES:
        raise NoWeb("a web has a list of one to twelve places")
    if not all([is_name(place) for place in places]):
        raise NoWeb("a place is a name")
    if len(set(places)) < len(places):
        raise NoWeb("no two places are alike")


def is_among(places, thing):
    """Whether a thing of any kind is one of these places."""
    # A thing that is no text may refuse to be compared.
    return isinstance(thing, str) and thing in places


def is_tie(places, thing):
    """Whether it is a tuple of two of these places."""
    if not isinstance(thing, tuple) or len(thing) != 2:
        return False
    return is_among(places, thing[0]) and is_among(places, thing[1])


def check_ties(places, ties):
    """Refuse what is no list of the ties of a web with these places."""
    if not isinstance(ties, list) or len(ties) > MOST_TIES:
        raise NoWeb("a web has a list of up to thirty ties")
    if not all([is_tie(places, tie) for tie in ties]):
        raise NoWeb("a tie is a tuple of two places of the web")


class Web:
    """Places, and ties numbered from 0; it never changes."""

    def __init__(self, places, ties):
        check_places(places)
        check_ties(places, ties)
        self.kept_places = tuple(sorted(places))
        self.kept_ties = tuple([(a, b) for a, b in ties])

    def places(self):
        """The places, rising."""
        return list(self.kept_places)

    def many(self):
        """How many ties there are."""
        return len(self.kept_ties)

    def tie(self, k):
        """The tie of this number, as a tuple of where it leads from and where to."""
        if not is_whole(k) or not 0 <= k < len(self.kept_ties):
            raise NoTie("it is no number of a tie of the web")
        return self.kept_ties[k]

    def ties(self):
        """The ties, in their order."""
        return list(self.kept_ties)


def check_place(web, place):
    """Refuse what is no place of the web."""
    if not is_among(web.places(), place):
        raise NoPlace("it is no place of the web")
