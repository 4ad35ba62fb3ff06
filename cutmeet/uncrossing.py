"""Steps of a family, in each of which two cuts that cross give way to their meet and their join."""

from cutmeet.crossing import are_crossing, check_family, had_by_both, had_by_one
from cutmeet.errors import NoStep
from cutmeet.names import is_whole


def pairs_of(many):
    """All tuples of two of so many numbers, the lesser first, rising."""
    return [(i, j) for i in range(many) for j in range(i + 1, many)]


def crossing_pairs(web, family):
    """All steps of a family that is known to be one."""
    return [(i, j) for i, j in pairs_of(len(family)) if are_crossing(web, family[i], family[j])]


def steps_of(web, family):
    """All steps of the family, rising."""
    check_family(web, family)
    return crossing_pairs(web, family)


def is_pair(many, thing):
    """Whether it is a tuple of two of so many numbers, the lesser first."""
    if not isinstance(thing, tuple) or len(thing) != 2:
        return False
    return is_whole(thing[0]) and is_whole(thing[1]) and 0 <= thing[0] < thing[1] < many


def behind(web, family, i, j):
    """The family behind a step."""
    after = list(family)
    after[i] = had_by_both(web, family[i], family[j])
    after[j] = had_by_one(web, family[i], family[j])
    return after


def stepped(web, family, step):
    """The family behind this step of it."""
    check_family(web, family)
    if not is_pair(len(family), step):
        raise NoStep("a step is a tuple of two numbers of the family, the lesser first")
    i, j = step
    if not are_crossing(web, family[i], family[j]):
        raise NoStep("these cuts do not cross")
    return behind(web, family, i, j)


def swept(web, family):
    """The family behind one step at most for each two numbers, and these steps."""
    steps = []
    for i, j in pairs_of(len(family)):
        if are_crossing(web, family[i], family[j]):
            family = behind(web, family, i, j)
            steps.append((i, j))
    return (family, steps)


def uncrossed(web, family):
    """An uncrossed family to which the family is brought, and the steps that lead there."""
    check_family(web, family)
    after, more = swept(web, list(family))
    steps = list(more)
    # A step keeps the sum of the cuts' sizes but moves two of them apart, so that the sum of their squares grows:
    # there is an end.
    while more:
        after, more = swept(web, after)
        steps.extend(more)
    return (after, steps)
