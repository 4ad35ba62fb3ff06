"""Flat webs: webs with the ends of ties as they stand round each place."""

from cutmeet.errors import NoFlat
from cutmeet.names import is_whole
from cutmeet.ways import hangs
from cutmeet.webs import Web

FACE_NAMES = "abcdefghijkl"


def ends_at(web, place):
    """The ends of ties that are at a place, rising."""
    return [(k, side) for k, tie in enumerate(web.ties()) for side in (0, 1) if tie[side] == place]


def is_end(web, thing):
    """Whether it is an end of a tie of the web."""
    if not isinstance(thing, tuple) or len(thing) != 2:
        return False
    k, side = thing
    return is_whole(k) and is_whole(side) and 0 <= k < web.many() and 0 <= side <= 1


def are_ends_at(web, place, things):
    """Whether it is a list of all ends that are at the place, each once."""
    if not isinstance(things, list) or len(things) > 2 * web.many():
        return False
    return all([is_end(web, thing) for thing in things]) and sorted(things) == ends_at(web, place)


def are_turns(web, things):
    """Whether it is a list with such a list for each place, rising."""
    if not isinstance(things, list) or len(things) != len(web.places()):
        return False
    return all([are_ends_at(web, place, thing) for place, thing in zip(web.places(), things)])


def from_least(ends):
    """The ends that stand round a place, as a tuple from the least one on."""
    if not ends:
        return ()
    at = ends.index(min(ends))
    return tuple([(k, side) for k, side in ends[at:] + ends[:at]])


def ends_behind(turns):
    """For each end the one that stands behind it."""
    behind = {}
    for ends in turns:
        for end, after in zip(ends, ends[1:] + ends[:1]):
            behind[end] = after
    return behind


def face_from(behind, first):
    """The ends from which one goes round a face, from this one on."""
    face = []
    end = first
    while not face or end != first:
        face.append(end)
        end = behind[(end[0], 1 - end[1])]
    return tuple(face)


def faces_of(turns):
    """The faces, rising."""
    behind = ends_behind(turns)
    if not behind:
        return [()]
    faces = []
    seen = {}
    for end in sorted(behind):
        if end not in seen:
            face = face_from(behind, end)
            faces.append(face)
            seen.update({other: True for other in face})
    return faces


def check_sums(web, faces):
    """Refuse faces that are not two more, with the places, than the ties, or are more than can be named."""
    if len(faces) > len(FACE_NAMES) or len(faces) + len(web.places()) != web.many() + 2:
        raise NoFlat("these are no turns of a flat web")


class Flat:
    """A web that hangs and its turns; it never changes."""

    def __init__(self, web, turns):
        if not hangs(web) or not are_turns(web, turns):
            raise NoFlat("these are no turns of a web that hangs")
        rows = tuple([from_least(ends) for ends in turns])
        faces = faces_of(rows)
        check_sums(web, faces)
        self.kept_web = web
        self.kept_turns = rows
        self.kept_faces = tuple(faces)

    def web(self):
        """The web."""
        return self.kept_web

    def turns(self):
        """For each place, rising, the ends that stand round it, from the least one on."""
        return [list(ends) for ends in self.kept_turns]

    def faces(self):
        """The faces, rising, each a tuple of ends."""
        return list(self.kept_faces)

    def other_web(self):
        """The flat web whose places are the faces, and whose ties lead across those of this one."""
        named = {}
        for name, face in zip(FACE_NAMES, self.kept_faces):
            for end in face:
                named[end] = name
        ties = [(named[(k, 1)], named[(k, 0)]) for k in range(self.kept_web.many())]
        turns = [[(k, 1 - side) for k, side in face[::-1]] for face in self.kept_faces]
        return Flat(Web(list(FACE_NAMES[:len(turns)]), ties), turns)
