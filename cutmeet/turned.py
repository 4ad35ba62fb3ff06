"""Lists of ties with none too many, and webs with some ties turned."""

from cutmeet.bares import check_hangs
from cutmeet.changes import without_tie
from cutmeet.errors import Bridge
from cutmeet.meeters import check_list, check_meeter, is_meeter, missed_by
from cutmeet.rounds import fewest_of
from cutmeet.tights import wanted_of, without
from cutmeet.ways import hangs
from cutmeet.webs import Web


def is_lean(web, ties):
    """Whether the ties meet every cut, and each of them is wanted."""
    return is_meeter(web, ties) and wanted_of(web, ties) == ties


def made_lean(web, ties):
    """What is left of a list that meets every cut once each tie that can be left out is."""
    check_meeter(web, ties)
    kept = list(ties)
    for k in ties:
        if missed_by(web, without(kept, k)) is None:
            kept = without(kept, k)
    return kept


def turned_about(web, ties):
    """The web with these ties turned."""
    check_list(web, ties)
    return Web(web.places(), [(b, a) if k in ties else (a, b) for k, (a, b) in enumerate(web.ties())])


def bridges(web):
    """The ties without which the web would not hang, rising."""
    check_hangs(web)
    return [k for k in range(web.many()) if not hangs(without_tie(web, k))]


def fewest_turned(web):
    """As few ties as can be which, turned, make all places reach all, rising."""
    found = bridges(web)
    if found:
        raise Bridge(found[0])
    # What makes all reach all meets every cut; and a fewest meeter is lean, so that turned it does make them.
    return fewest_of(web)
