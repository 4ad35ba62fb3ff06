"""What a place reaches, ways, clumps and pieces."""

from cutmeet.webs import check_place


def leads(places, ties):
    """A dict from each of the places to the list of those to which ties lead from it."""
    steps = {place: [] for place in places}
    for a, b in ties:
        steps[a].append(b)
    return steps


def turned_pairs(ties):
    """The ties, each leading the other way."""
    return [(b, a) for a, b in ties]


def spread(steps, start):
    """All that one comes to from a place by such steps, itself too, rising."""
    seen = {start: True}
    ahead = [start]
    while ahead:
        place = ahead.pop()
        for after in steps[place]:
            if after not in seen:
                seen[after] = True
                ahead.append(after)
    return sorted(seen)


def reached(web, place):
    """All places that a place reaches, rising."""
    check_place(web, place)
    return spread(leads(web.places(), web.ties()), place)


def reachers(web, place):
    """All places that reach a place, rising."""
    check_place(web, place)
    return spread(leads(web.places(), turned_pairs(web.ties())), place)


def came_by(web, start):
    """For each place that is reached the tie by which it is first come to, for the start None."""
    came = {start: None}
    ahead = [start]
    # All places of one distance are gone through before any farther one: so no way is longer than need be.
    while ahead:
        found = []
        for k, (a, b) in enumerate(web.ties()):
            if a in ahead and b not in came:
                came[b] = k
                found.append(b)
        ahead = found
    return came


def way(web, one, other):
    """A way from one place to another with as few ties as any, or None."""
    check_place(web, one)
    check_place(web, other)
    came = came_by(web, one)
    if other not in came:
        return None
    back = []
    place = other
    while came[place] is not None:
        back.append(came[place])
        place = web.tie(came[place])[0]
    return back[::-1]


def clumps(web):
    """The sets of places of which each reaches each."""
    steps = leads(web.places(), web.ties())
    reach = {place: spread(steps, place) for place in web.places()}
    return sorted({tuple([b for b in reach[a] if a in reach[b]]) for a in web.places()})


def pieces_among(web, among):
    """The pieces of some of a web's places, by the ties between these alone."""
    inner = [(a, b) for a, b in web.ties() if a in among and b in among]
    steps = leads(among, inner + turned_pairs(inner))
    return sorted({tuple(spread(steps, place)) for place in among})


def pieces(web):
    """The sets of places of which each is come to from each by ties gone in either direction."""
    return pieces_among(web, web.places())


def hangs(web):
    """Whether the web has one piece."""
    return len(pieces(web)) == 1


def all_reach(web):
    """Whether all places reach all."""
    return len(clumps(web)) == 1
