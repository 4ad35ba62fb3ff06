"""Fewest meeters, by rounds in which ties are exchanged."""

from cutmeet.bares import check_hangs
from cutmeet.meeters import check_meeter
from cutmeet.tights import had_by_all, tights_by_place, without


def free_steps(web, tights):
    """Steps for nothing, from each place to what lies in all its tight cuts."""
    return [(a, b, 0, None) for a in web.places() for b in had_by_all(web, tights[a]) if a != b]


def unlisted(web, ties):
    """The numbers of all other ties of the web, rising."""
    return [k for k in range(web.many()) if k not in ties]


def steps_back(web, numbers, counts):
    """Steps back along these ties, each for what it counts."""
    return [(web.tie(k)[1], web.tie(k)[0], counts[k], k) for k in numbers]


def steps_along(web, numbers, counts):
    """Steps along these ties, each for as much less than nothing as it counts."""
    return [(web.tie(k)[0], web.tie(k)[1], -counts[k], k) for k in numbers]


def cheapest(steps, begin):
    """For each place what it costs to come there, and in how many steps, and for those come to the last step."""
    # There must be no ring of steps that costs less than nothing: so there is an end.
    best = dict(begin)
    came = {}
    changed = True
    while changed:
        changed = False
        for a, b, cost, k in steps:
            if a in best:
                asked = (best[a][0] + cost, best[a][1] + 1)
                if b not in best or asked < best[b]:
                    best[b] = asked
                    came[b] = (a, k)
                    changed = True
    return (best, came)


def gone_on(came, start, end):
    """The ties that are gone along or back on the way from start to end."""
    gone = []
    while end != start:
        end, k = came[end]
        if k is not None:
            gone.append(k)
    return gone


def with_count(web, ties, counts, k, need):
    """The list of ties as it is to be once its tie k counts what it counts, too."""
    end, start = web.tie(k)
    steps = free_steps(web, tights_by_place(web, ties, need))
    steps += steps_back(web, unlisted(web, ties), counts) + steps_along(web, without(ties, k), counts)
    # Of ways that cost alike one of the fewest steps is taken: by others cuts might come to be missed.
    best, came = cheapest(steps, {start: (0, 0)})
    if end not in best or best[end][0] >= counts[k]:
        return ties
    return sorted(set(ties) ^ set([k] + gone_on(came, start, end)))


def lightest_by(web, counts, need):
    """A list of ties that count as little as those of any that meets every cut so many times as are needed.
    All ties of the web must do so."""
    ties = list(range(web.many()))
    so_far = [0] * web.many()
    for k, count in enumerate(counts):
        so_far[k] = count
        if k in ties and count > 0:
            ties = with_count(web, ties, so_far, k, need)
    return ties


def fewest_of(web):
    """A fewest meeter of a web that hangs."""
    return lightest_by(web, [1] * web.many(), 1)


def fewest(web):
    """A meeter with as few ties as any has."""
    check_hangs(web)
    return fewest_of(web)


def how_few(web):
    """How many ties a meeter must have at least."""
    return len(fewest(web))


def made_less(web, ties):
    """Ties to be taken out of a meeter and one less to be put in, so that it stays a meeter, or None."""
    check_meeter(web, ties)
    least = fewest_of(web)
    if len(ties) == len(least):
        return None
    # A fewest meeter is a meeter with any other ties, too: as many are kept as make it one tie less.
    spare = [k for k in ties if k not in least]
    kept = least + spare[:len(ties) - 1 - len(least)]
    return ([k for k in ties if k not in kept], [k for k in least if k not in ties])
