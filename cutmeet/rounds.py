"""Fewest meeters, by rounds in which ties are exchanged."""

from cutmeet.bares import check_hangs
from cutmeet.meeters import check_meeter
from cutmeet.tights import overs


def free_steps(web, ties):
    """Steps for nothing, from each place to those to which it goes over."""
    found = overs(web, ties)
    return [(a, b, 0, None) for a in web.places() for b in found[a] if a != b]


def steps_back(web, numbers, counts):
    """Steps back along these ties, each for what it counts."""
    return [(web.tie(k)[1], web.tie(k)[0], counts[k], k) for k in numbers]


def steps_along(web, numbers, counts):
    """Steps along these ties, each for as much less than nothing as it counts."""
    return [(web.tie(k)[0], web.tie(k)[1], -counts[k], k) for k in numbers]


def cheapest(steps, begin):
    """For each place what it costs to come there, and in how many steps, and for those come to the last step."""
    # There must be no ring of steps that costs less than nothing: so there is an end.
    best = dict(begin)
    came = {}
    changed = True
    while changed:
        changed = False
        for a, b, cost, k in steps:
            if a in best:
                asked = (best[a][0] + cost, best[a][1] + 1)
                if b not in best or asked < best[b]:
                    best[b] = asked
                    came[b] = (a, k)
                    changed = True
    return (best, came)


def gone_on(came, start, end):
    """The ties that are gone along or back on the way from start to end."""
    gone = []
    while end != start:
        end, k = came[end]
        if k is not None:
            gone.append(k)
    return gone


def with_count(web, ties, counts, k):
    """The meeter as it is to be once its tie k counts what it counts, too."""
    end, start = web.tie(k)
    unused = [other for other in range(web.many()) if other not in ties]
    used = [other for other in ties if other != k]
    steps = free_steps(web, ties) + steps_back(web, unused, counts) + steps_along(web, used, counts)
    # Of ways that cost alike one of the fewest steps is taken: by others cuts might come to be missed.
    best, came = cheapest(steps, {start: (0, 0)})
    if end not in best or best[end][0] >= counts[k]:
        return ties
    return sorted(set(ties) ^ set([k] + gone_on(came, start, end)))


def lightest_by(web, counts):
    """A meeter of a web that hangs whose ties count as little as those of any."""
    ties = list(range(web.many()))
    so_far = [0] * web.many()
    for k, count in enumerate(counts):
        so_far[k] = count
        if k in ties and count > 0:
            ties = with_count(web, ties, so_far, k)
    return ties


def fewest_of(web):
    """A fewest meeter of a web that hangs."""
    return lightest_by(web, [1] * web.many())


def fewest(web):
    """A meeter with as few ties as any has."""
    check_hangs(web)
    return fewest_of(web)


def how_few(web):
    """How many ties a meeter must have at least."""
    return len(fewest(web))


def made_less(web, ties):
    """Ties to be taken out of a meeter and one less to be put in, so that it stays a meeter, or None."""
    check_meeter(web, ties)
    least = fewest_of(web)
    if len(ties) == len(least):
        return None
    # A fewest meeter is a meeter with any other ties, too: as many are kept as make it one tie less.
    spare = [k for k in ties if k not in least]
    kept = least + spare[:len(ties) - 1 - len(least)]
    return ([k for k in ties if k not in kept], [k for k in least if k not in ties])
