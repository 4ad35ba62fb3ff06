"""Bare cuts: those of which both sides hang."""

from cutmeet.cuts import check_cut
from cutmeet.errors import Apart
from cutmeet.ways import hangs, pieces, pieces_among


def check_hangs(web):
    """Refuse a web that does not hang."""
    if not hangs(web):
        raise Apart(pieces(web)[0])


def lacked(web, places):
    """All places of the web but these, rising."""
    return [place for place in web.places() if place not in places]


def is_bare(web, cut):
    """Whether both the places of the cut and all others hang."""
    check_hangs(web)
    check_cut(web, cut)
    return len(pieces_among(web, cut)) == 1 and len(pieces_among(web, lacked(web, cut))) == 1


def parted(web, cut):
    """The bare cuts into which a cut is parted, rising."""
    check_hangs(web)
    check_cut(web, cut)
    parts = []
    for inner in pieces_among(web, cut):
        for outer in pieces_among(web, lacked(web, inner)):
            parts.append(tuple(lacked(web, outer)))
    return sorted(parts)
