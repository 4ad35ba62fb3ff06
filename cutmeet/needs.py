"""Cuts that are to be met more than once."""

from cutmeet.bares import check_hangs
from cutmeet.errors import TooFew
from cutmeet.meeters import are_ties
from cutmeet.narrows import met_less
from cutmeet.papers import parted_levels
from cutmeet.rounds import lightest_by, steps_along, steps_back, unlisted
from cutmeet.tights import tights_by_place
from cutmeet.ways import hangs
from cutmeet.weights import are_timed_cuts, loads


def check_wide(web, k):
    """Refuse a web with a cut that has fewer ties than k."""
    cut = met_less(web, list(range(web.many())), k)
    if cut is not None:
        raise TooFew(cut)


def needed_cuts(web, ties, k):
    """For fewest ties that meet every cut k times cuts with just k of them, with times, rising: for each tie of the
    list these come to 1 at least, for each other one to 1 at most."""
    ones = [1] * web.many()
    steps = steps_back(web, unlisted(web, ties), ones) + steps_along(web, ties, ones)
    return parted_levels(web, tights_by_place(web, ties, k), steps)


def needs_paper(web, k):
    """As few ties as can meet every cut k times, and cuts with times that show that no fewer do."""
    check_hangs(web)
    check_wide(web, k)
    ties = lightest_by(web, [1] * web.many(), k)
    return (ties, needed_cuts(web, ties, k))


def shown_need(web, k, rows):
    """How many ties it takes at least to meet every cut k times, as far as these cuts with times show."""
    spare = sum([load - 1 for load in loads(web, rows) if load > 1])
    return k * sum([times for cut, times in rows]) - spare


def meets_times(web, k, thing):
    """Whether it is a list of ties that meets every cut k times."""
    return are_ties(web, thing) and met_less(web, thing, k) is None


def is_needs_paper(web, k, thing):
    """Whether it is a list of ties that meets every cut k times, with cuts that show that no fewer do."""
    if not hangs(web) or not isinstance(thing, tuple) or len(thing) != 2:
        return False
    ties, rows = thing
    if not meets_times(web, k, ties) or not isinstance(rows, list) or not are_timed_cuts(web, rows):
        return False
    return shown_need(web, k, rows) == len(ties)
