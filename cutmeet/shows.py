"""Lists of ties, cuts and webs written in a row."""

from cutmeet.errors import NoText
from cutmeet.webtexts import read_web, web_text


def in_a_row(words):
    """The words of a list with a blank between each two, a minus where there are none."""
    return " ".join(words) if words else "-"


def show_ties(ties):
    """A list of ties, or None, as a text."""
    return "none" if ties is None else in_a_row([str(k) for k in ties])


def show_cut(cut):
    """A cut, or None, as a text."""
    return "none" if cut is None else "+".join(cut)


def show_entry(thing):
    """A cut, or a cut and how many times it comes, as a text."""
    if isinstance(thing[0], str):
        return show_cut(thing)
    cut, times = thing
    return f"{show_cut(cut)}*{times}"


def show_cuts(cuts):
    """A list of cuts, or of cuts with times, or None, as a text."""
    return "none" if cuts is None else in_a_row([show_entry(thing) for thing in cuts])


def show_web(web):
    """A web as a text of one row."""
    return "; ".join(web_text(web).splitlines())


def read_row(text):
    """The web that is written so."""
    if not isinstance(text, str):
        raise NoText("it is no text")
    web = read_web("\n".join(text.split("; ")) + "\n")
    # A line feed that stands in the row itself would be read, too.
    if show_web(web) != text:
        raise NoText("it is not written as a web in a row is")
    return web
