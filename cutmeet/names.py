"""Whole numbers and names."""

LONGEST = 8


def is_whole(thing):
    """Whether it is an int that is neither True nor False."""
    return isinstance(thing, int) and not isinstance(thing, bool)


def is_name(thing):
    """Whether it is a text of one to eight small letters, a to z."""
    if not isinstance(thing, str) or not 1 <= len(thing) <= LONGEST:
        return False
    return all(["a" <= sign <= "z" for sign in thing])
