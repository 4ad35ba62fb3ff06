"""A desk that keeps webs by names, and answers rows of text."""

from cutmeet.bares import parted
from cutmeet.changes import joined, with_tie, without_tie
from cutmeet.cuts import all_cuts
from cutmeet.drawn import drawn, idle
from cutmeet.errors import NoName
from cutmeet.leasts import least
from cutmeet.meeters import missed
from cutmeet.names import is_name
from cutmeet.needs import needs_paper
from cutmeet.orders import read_order
from cutmeet.papers import paper
from cutmeet.shows import read_row, show_cut, show_cuts, show_ties, show_web
from cutmeet.turned import bridges, fewest_turned, turned_about
from cutmeet.ways import reached, way
from cutmeet.weights import full_paper


def tell_text(given):
    """The web in a row."""
    return show_web(given[0])


def tell_reach(given):
    """The places that a place reaches."""
    return " ".join(reached(given[0], given[1]))


def tell_way(given):
    """A way from a place to another one."""
    return show_ties(way(given[0], given[1], given[2]))


def tell_cuts(given):
    """All cuts."""
    return show_cuts(all_cuts(given[0]))


def tell_least(given):
    """The least cut that has a place and lacks another one."""
    return show_cut(least(given[0], given[1], given[2]))


def tell_bare(given):
    """The bare cuts into which a cut is parted."""
    return show_cuts(parted(given[0], given[1]))


def tell_miss(given):
    """A cut that the ties do not meet."""
    return show_cut(missed(given[0], given[1:]))


def show_paper(told):
    """The ties and the cuts of a paper of any sort."""
    return f"{show_ties(told[0])} / {show_cuts(told[1])}"


def tell_fewest(given):
    """A paper."""
    return show_paper(paper(given[0]))


def tell_lightest(given):
    """A full paper."""
    return show_paper(full_paper(given[0], given[1:]))


def tell_times(given):
    """A list of ties that meets every cut so many times, and its paper."""
    return show_paper(needs_paper(given[0], given[1]))


def tell_idle(given):
    """The idle ties."""
    return show_ties(idle(given[0]))


def tell_bridges(given):
    """The bridges."""
    return show_ties(bridges(given[0]))


def tell_turns(given):
    """The fewest ties to turn."""
    return show_ties(fewest_turned(given[0]))


def make_web(given):
    """The web that is written in a row."""
    return read_row(given[0])


def make_drawn(given):
    """The web drawn together by ties."""
    return drawn(given[0], given[1:])


def make_turned(given):
    """The web turned by ties."""
    return turned_about(given[0], given[1:])


def make_more(given):
    """The web with a tie more."""
    return with_tie(given[0], given[1], given[2])


def make_less(given):
    """The web without a tie."""
    return without_tie(given[0], given[1])


def make_joined(given):
    """Both webs joined."""
    return joined(given[0], given[1])


TELLERS = {
    "text": tell_text,
    "reach": tell_reach,
    "way": tell_way,
    "cuts": tell_cuts,
    "least": tell_least,
    "bare": tell_bare,
    "miss": tell_miss,
    "fewest": tell_fewest,
    "lightest": tell_lightest,
    "times": tell_times,
    "idle": tell_idle,
    "bridges": tell_bridges,
    "turns": tell_turns,
}
MAKERS = {
    "web": make_web,
    "draw": make_drawn,
    "turn": make_turned,
    "more": make_more,
    "less": make_less,
    "join": make_joined,
}


class Desk:
    """Webs by their names."""

    def __init__(self):
        self.webs = {}

    def meant(self, kind, thing):
        """What is meant by what a word tells: a web by its name, all else by itself."""
        if kind == "new" and not is_name(thing):
            raise NoName("it is no name")
        if kind != "name":
            return thing
        if thing not in self.webs:
            raise NoName("no web stands by this name")
        return self.webs[thing]

    def say(self, row):
        """The answer to a row."""
        word, told = read_order(row)
        given = [self.meant(kind, thing) for kind, thing in told]
        if word in TELLERS:
            teller = TELLERS[word]
            return teller(given)
        maker = MAKERS[word]
        made = maker(given[1:])
        self.webs[given[0]] = made
        return "ok"
