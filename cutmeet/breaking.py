"""Ties that break all rings of a flat web."""

from cutmeet.cuts import ties_of
from cutmeet.papers import paper


def breakers(flat):
    """Ties that break all rings of the flat web, and as many of these rings that share no tie."""
    other = flat.other_web().web()
    # A cut that has just one tie of a meeter is bare: so the ties of each cut of a paper are one ring.
    ties, cuts = paper(other)
    return (ties, sorted([tuple(ties_of(other, cut)) for cut in cuts]))
