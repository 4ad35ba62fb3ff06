"""Webs written as texts, and read again."""

from cutmeet.errors import NoText, NoWeb
from cutmeet.webs import Web


def web_text(web):
    """The text of a web: a row of its places, then a row for each tie."""
    rows = [" ".join(["places"] + web.places())]
    for a, b in web.ties():
        rows.append(f"{a} > {b}")
    return "\n".join(rows) + "\n"


def web_of_rows(first, others):
    """The web that the rows would tell, by whatever word the first one begins."""
    places = first.split(" ")[1:]
    ties = [tuple(row.split(" > ")) for row in others]
    try:
        return Web(places, ties)
    except NoWeb:
        raise NoText("the rows tell no web") from None


def read_web(text):
    """The web of which this is the text."""
    if not isinstance(text, str):
        raise NoText("it is no text")
    rows = text.split("\n")
    web = web_of_rows(rows[0], rows[1:-1])
    # Each web has one text: what differs from it, in whatever sign, is not written as it should be.
    if web_text(web) != text:
        raise NoText("it is not written as a web's text is")
    return web
