"""The rows that a desk is told, taken apart into words."""

from cutmeet.errors import NoRow
from cutmeet.names import is_name

# For the first word of a row the kinds of all others, where "numbers" stands for none or more of them.
FORMS = {
    "web": ("new", "row"),
    "text": ("name",),
    "reach": ("name", "place"),
    "way": ("name", "place", "place"),
    "cuts": ("name",),
    "least": ("name", "place", "place"),
    "bare": ("name", "cut"),
    "miss": ("name", "numbers"),
    "fewest": ("name",),
    "lightest": ("name", "numbers"),
    "times": ("name", "times"),
    "idle": ("name",),
    "bridges": ("name",),
    "turns": ("name",),
    "draw": ("new", "name", "number", "numbers"),
    "turn": ("new", "name", "number", "numbers"),
    "more": ("new", "name", "place", "place"),
    "less": ("new", "name", "number"),
    "join": ("new", "name", "name"),
}
FIGURES = "0123456789"
MOST_FIGURES = 12


def words_of(row):
    """The words of a row; of one that tells a web all behind the name is one word."""
    words = row.split(" ")
    if words[0] == "web":
        return words[:2] + [" ".join(words[2:])]
    return words


def kinds_of(first, many):
    """The kinds of so many words behind this first one."""
    if first not in FORMS:
        raise NoRow("no row begins so")
    kinds = FORMS[first]
    if kinds[-1] == "numbers":
        kinds = kinds[:-1] + ("number",) * (many - len(kinds) + 1)
    if len(kinds) != many:
        raise NoRow("the row has too few words, or too many")
    return kinds


def as_it_stands(word):
    """The word itself."""
    return word


def read_number(word):
    """The number that a word writes."""
    if len(word) > MOST_FIGURES or not all([sign in FIGURES for sign in word]):
        raise NoRow("a number has one to twelve figures")
    if word[0] == "0" and len(word) > 1:
        raise NoRow("a number has no needless noughts ahead")
    return int(word)


def read_times(word):
    """The number from 1 on that a word writes."""
    times = read_number(word)
    if times == 0:
        raise NoRow("cuts are met once at least")
    return times


def read_cut(word):
    """The tuple of names that a word writes."""
    names = word.split("+")
    if not all([is_name(name) for name in names]):
        raise NoRow("a cut is written by names with a plus between each two")
    return tuple(names)


READERS = {
    "new": as_it_stands,
    "name": as_it_stands,
    "place": as_it_stands,
    "row": as_it_stands,
    "number": read_number,
    "times": read_times,
    "cut": read_cut,
}


def read_word(kind, word):
    """What a word of this kind tells."""
    if not word:
        raise NoRow("a word is empty")
    reader = READERS[kind]
    return reader(word)


def read_order(row):
    """The first word of a row, and the kind of each other one with what it tells."""
    if not isinstance(row, str):
        raise NoRow("it is no text")
    words = words_of(row)
    kinds = kinds_of(words[0], len(words) - 1)
    return (words[0], [(kind, read_word(kind, word)) for kind, word in zip(kinds, words[1:])])
