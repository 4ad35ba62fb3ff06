"""Papers: a meeter, and as many cuts that share no tie."""

from cutmeet.bares import check_hangs
from cutmeet.crossing import entered
from cutmeet.cuts import check_cut, is_cut
from cutmeet.meeters import are_ties, check_meeter, missed_by
from cutmeet.partings import parts_by
from cutmeet.rounds import cheapest, fewest_of, free_steps, steps_along, steps_back
from cutmeet.tights import tights_by_place
from cutmeet.ways import hangs


def prices(web, steps):
    """For each place the least for which one comes there by these steps, from wherever one begins."""
    best = cheapest(steps, {place: (0, 0) for place in web.places()})[0]
    return {place: best[place][0] for place in web.places()}


def levels(web, price):
    """The places up to each price but the greatest, with by how much the next one is higher."""
    rising = sorted({price[place] for place in web.places()})
    found = []
    for low, high in zip(rising, rising[1:]):
        found.append((tuple([place for place in web.places() if price[place] <= low]), high - low))
    return found


def parted_levels(web, tights, steps):
    """Tight cuts with times that come, for each tie, to how far prices by these steps fall along it, rising."""
    # By free steps prices do not rise to where a place goes over: so each level is parted by tight cuts.
    price = prices(web, free_steps(web, tights) + steps)
    times = {}
    for level, rise in levels(web, price):
        for cut in parts_by(web, tights, level):
            times[cut] = times.get(cut, 0) + rise
    return sorted(times.items())


def timed_cuts(web, ties, counts):
    """For a lightest meeter tight cuts with times that come to just what each of its ties counts, rising."""
    # So prices fall along a tie by what it counts at most, along one of the meeter by just that.
    steps = steps_back(web, list(range(web.many())), counts) + steps_along(web, ties, counts)
    return parted_levels(web, tights_by_place(web, ties, 1), steps)


def paper_with(web, ties):
    """A paper with the ties of a fewest meeter."""
    # Each tie counts one: so each cut comes once.
    return (list(ties), [cut for cut, times in timed_cuts(web, ties, [1] * web.many())])


def paper(web):
    """A meeter and as many cuts that share no tie."""
    check_hangs(web)
    return paper_with(web, fewest_of(web))


def paper_of(web, ties):
    """A paper with just the ties of this meeter, or None."""
    check_meeter(web, ties)
    return paper_with(web, ties) if len(ties) == len(fewest_of(web)) else None


def parted_by(web, ties, cut):
    """Cuts that are tight for the meeter and share no tie, with just the ties of the cut, rising, or None."""
    check_meeter(web, ties)
    check_cut(web, cut)
    return parts_by(web, tights_by_place(web, ties, 1), cut)


def has_meeter(web, thing):
    """Whether the web hangs and it is a tuple of a meeter and a list."""
    if not hangs(web) or not isinstance(thing, tuple) or len(thing) != 2:
        return False
    return are_ties(web, thing[0]) and missed_by(web, thing[0]) is None and isinstance(thing[1], list)


def is_rising_family(web, things):
    """Whether the things of a list are cuts, rising."""
    return all([is_cut(web, thing) for thing in things]) and things == sorted(set(things))


def is_paper(web, thing):
    """Whether it is a paper of the web."""
    if not has_meeter(web, thing):
        return False
    ties, cuts = thing
    if len(cuts) != len(ties) or not is_rising_family(web, cuts):
        return False
    return max(entered(web, cuts), default=0) <= 1
