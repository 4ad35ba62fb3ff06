"""Lightest meeters, and cuts with times that keep to the weights."""

from cutmeet.bares import check_hangs
from cutmeet.cuts import ties_of
from cutmeet.errors import NoWeights
from cutmeet.names import is_whole
from cutmeet.papers import has_meeter, is_rising_family, timed_cuts
from cutmeet.rounds import lightest_by

HEAVIEST = 999999999999


def check_weights(web, weights):
    """Refuse what are no weights of the web."""
    if not isinstance(weights, list) or len(weights) != web.many():
        raise NoWeights("weights are a list of one number for each tie")
    if not all([is_whole(weight) and 0 <= weight <= HEAVIEST for weight in weights]):
        raise NoWeights("a weight is a whole number of at most twelve figures")


def lightest(web, weights):
    """A meeter that weighs as little as any does."""
    check_hangs(web)
    check_weights(web, weights)
    return lightest_by(web, weights, 1)


def weight_of(weights, ties):
    """What a list of ties weighs."""
    return sum([weights[k] for k in ties])


def how_light(web, weights):
    """What a lightest meeter weighs."""
    return weight_of(weights, lightest(web, weights))


def full_paper(web, weights):
    """A lightest meeter, and cuts with times that keep to the weights and come to what it weighs."""
    ties = lightest(web, weights)
    return (ties, timed_cuts(web, ties, weights))


def is_timed(thing):
    """Whether it is a tuple of anything and a whole number from 1 on."""
    return isinstance(thing, tuple) and len(thing) == 2 and is_whole(thing[1]) and thing[1] >= 1


def are_timed_cuts(web, things):
    """Whether the things of a list are cuts with times, rising, no cut twice."""
    return all([is_timed(thing) for thing in things]) and is_rising_family(web, [thing[0] for thing in things])


def loads(web, rows):
    """For each tie to what the times of the cuts come that have it."""
    found = [0] * web.many()
    for cut, times in rows:
        for k in ties_of(web, cut):
            found[k] += times
    return found


def is_full_paper(web, weights, thing):
    """Whether it is a full paper of the web and the weights."""
    check_weights(web, weights)
    if not has_meeter(web, thing) or not are_timed_cuts(web, thing[1]):
        return False
    ties, rows = thing
    if not all([load <= weight for load, weight in zip(loads(web, rows), weights)]):
        return False
    return sum([times for cut, times in rows]) == weight_of(weights, ties)
