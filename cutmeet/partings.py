"""Cuts parted by a meeter into tight ones."""

from cutmeet.crossing import had_by_both, had_by_one
from cutmeet.tights import had_by_all


def is_all(web, places):
    """Whether these are all places of the web."""
    return len(places) == len(web.places())


def folded_in(web, kept, cut):
    """The cuts, and one more, such that again any two have all places between them."""
    near = [other for other in kept if not is_all(web, had_by_one(web, cut, other))]
    while near:
        for other in near:
            cut = had_by_both(web, cut, other)
        kept = [other for other in kept if other not in near]
        near = [other for other in kept if not is_all(web, had_by_one(web, cut, other))]
    return kept + [cut]


def folded(web, cuts):
    """Tight cuts any two of which have all places between them, and that have in common what these have."""
    # Two tight cuts with a place in common and one that both lack have a tight meet, which stands for both.
    kept = []
    for cut in cuts:
        kept = folded_in(web, kept, cut)
    return kept


def widened(web, cuts, others):
    """Tight cuts that have in common what the cuts of either group have in common, where these share a place."""
    spans = [had_by_one(web, cut, other) for cut in cuts for other in others]
    return folded(web, [span for span in spans if not is_all(web, span)])


def grouped(web, groups, cuts):
    """The groups, and one more, such that what the cuts of a group have in common is apart from all others."""
    inside = had_by_all(web, cuts)
    kept = []
    for group in groups:
        if had_by_both(web, inside, had_by_all(web, group)):
            cuts = widened(web, cuts, group)
        else:
            kept.append(group)
    return kept + [cuts]


def parts_by(web, tights, cut):
    """Tight cuts that share no tie and have just the ties of the cut, rising, or None; tights are those by place."""
    groups = []
    for place in cut:
        if not all([other in cut for other in had_by_all(web, tights[place])]):
            return None
        groups = grouped(web, groups, folded(web, tights[place]))
    # Each place that a group's cuts do not have in common is lacked by just one of them. So each place of the cut
    # is in one more of all these cuts than any other place is; and a tie, which leaves none of them, comes into one
    # where it comes into the cut, else into none.
    return sorted([part for group in groups for part in group])
