"""Cuts with as few ties of a list as can be."""


def steps_at(web):
    """For each place the steps that lead from it, along a tie or back: where to, by which tie, how its room changes."""
    found = {place: [] for place in web.places()}
    for k, (a, b) in enumerate(web.ties()):
        found[a].append((b, k, 1))
        found[b].append((a, k, -1))
    return found


def come_to(steps, room, start):
    """For each place that is come to, how: along any tie, or back along one with room; for the start None."""
    came = {start: None}
    ahead = [start]
    while ahead:
        place = ahead.pop()
        for after, k, change in steps[place]:
            if after not in came and room[k] + change >= 0:
                came[after] = (place, k, change)
                ahead.append(after)
    return came


def taken_up(room, came, end):
    """The room that is left once the way to this end is gone: back along a tie takes some, along it gives some."""
    left = list(room)
    while came[end] is not None:
        end, k, change = came[end]
        left[k] += change
    return left


def narrowest(web, ties, one, other, most):
    """The least cut that has one, lacks other and has as few of the ties as such a cut can have, None where these
    are more than most, or there is no such cut."""
    # Each way that is gone leaves any such cut by a tie of the list, gone back: so as many ways as the narrowest one
    # has ties of the list can be gone, and then it is just what is come to. No cut has more ties than the web.
    steps = steps_at(web)
    room = [1 if k in ties else 0 for k in range(web.many())]
    for gone in range(min(most, web.many()) + 1):
        came = come_to(steps, room, one)
        if other not in came:
            return tuple(sorted(came))
        room = taken_up(room, came, other)
    return None


def met_less(web, ties, k):
    """A cut that has fewer than k of the ties, or None."""
    first = web.places()[0]
    # Each cut has the first place and lacks another one, or the other way round.
    for other in web.places()[1:]:
        cut = narrowest(web, ties, first, other, k - 1)
        if cut is None:
            cut = narrowest(web, ties, other, first, k - 1)
        if cut is not None:
            return cut
    return None
