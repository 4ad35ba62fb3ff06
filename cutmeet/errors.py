"""The refusals: each is a class straight under WebError."""


class WebError(ValueError):
    """Any refusal."""


class NoWeb(WebError):
    """What is handed in makes no web."""


class NoPlace(WebError):
    """It is no place of the web."""


class NoTie(WebError):
    """It is no number of a tie of the web, or no list of ties."""


class NoText(WebError):
    """It is no web's text."""


class NoCut(WebError):
    """It is no cut of the web."""


class TooMany(WebError):
    """There are more than are told."""


class NoStep(WebError):
    """It is no step of the family."""


class NoTree(WebError):
    """It is the tree of no family of the web."""


class NoWeights(WebError):
    """They are no weights of the web."""


class NoFlat(WebError):
    """They are no turns of a flat web."""


class NoRing(WebError):
    """It is no ring of the web."""


class NoNames(WebError):
    """They are no names for just the web's places."""


class NoRow(WebError):
    """It is no row that the desk knows."""


class NoName(WebError):
    """It is no name, or none by which a web stands."""


class Apart(WebError):
    """The web does not hang: cut is a cut without ties."""

    def __init__(self, cut):
        self.cut = cut


class NoMeeter(WebError):
    """The ties do not meet every cut: cut is one that they miss."""

    def __init__(self, cut):
        self.cut = cut


class TooFew(WebError):
    """The cut has fewer ties than are to meet it."""

    def __init__(self, cut):
        self.cut = cut


class Twice(WebError):
    """The cuts of a family at the numbers one and other are alike."""

    def __init__(self, one, other):
        self.one = one
        self.other = other


class Crossed(WebError):
    """The cuts of a family at the numbers one and other cross."""

    def __init__(self, one, other):
        self.one = one
        self.other = other


class Bridge(WebError):
    """The tie of this number is a bridge."""

    def __init__(self, number):
        self.number = number
