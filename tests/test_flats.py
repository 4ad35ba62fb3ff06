import random
import unittest

from cutmeet.errors import NoFlat
from cutmeet.flats import Flat
from cutmeet.webs import Web
from samples import Stubborn, apart, endless, flat_pair, flat_pairs, hanging_webs, make, odd_things, state

# A ring of three places, one tie of it turned.
RING = make("a b c", "ab bc ac")
RING_TURNS = [[(0, 0), (2, 0)], [(0, 1), (1, 0)], [(1, 1), (2, 1)]]
# Two ties from a place to itself: beside one another, and across.
LOOPS = make("a", "aa aa")


def plain_behind(turns, end):
    """The end that stands behind this one."""
    row = next(row for row in turns if end in row)
    return row[(row.index(end) + 1) % len(row)]


def plain_faces(turns):
    """The faces, by going on from every end, and leaving out those that begin elsewhere."""
    found = set()
    for first in [end for row in turns for end in row]:
        face = [first]
        while True:
            k, side = face[-1]
            end = plain_behind(turns, (k, 1 - side))
            if end == first:
                break
            face.append(end)
        at = face.index(min(face))
        found.add(tuple(face[at:] + face[:at]))
    return sorted(found) or [()]


def from_least(row):
    at = row.index(min(row)) if row else 0
    return row[at:] + row[:at]


def shuffled(web, chance):
    """All ends at each place, in any order."""
    rows = [[(k, side) for k, tie in enumerate(web.ties()) for side in (0, 1) if tie[side] == place]
            for place in web.places()]
    for row in rows:
        chance.shuffle(row)
    return rows


class Flats(unittest.TestCase):
    def test_one_place(self):
        flat = Flat(make("q", ""), [[]])
        self.assertEqual((flat.turns(), flat.faces()), ([[]], [()]))
        flat = Flat(make("a", "aa"), [[(0, 0), (0, 1)]])
        self.assertEqual(flat.faces(), [((0, 0),), ((0, 1),)])
        beside = Flat(LOOPS, [[(0, 0), (0, 1), (1, 0), (1, 1)]])
        self.assertEqual(beside.faces(), [((0, 0), (1, 0)), ((0, 1),), ((1, 1),)])
        within = Flat(LOOPS, [[(0, 0), (1, 0), (1, 1), (0, 1)]])
        self.assertEqual(within.faces(), [((0, 0),), ((0, 1), (1, 0)), ((1, 1),)])
        with self.assertRaises(NoFlat):
            Flat(LOOPS, [[(0, 0), (1, 0), (0, 1), (1, 1)]])

    def test_a_ring(self):
        flat = Flat(RING, RING_TURNS)
        self.assertEqual(flat.faces(), [((0, 0), (1, 0), (2, 1)), ((0, 1), (2, 0), (1, 1))])
        self.assertEqual(flat.turns(), RING_TURNS)
        self.assertEqual(state(flat.web()), state(RING))

    def test_the_right_hand_and_the_left(self):
        # From a, going to the left round it: tie 0 to b, tie 1 to c, tie 2 to d; and a tie from b on to c. So the
        # face within a, b, c lies at the left of tie 0 and of tie 3, and at the right of tie 1.
        web = make("a b c d", "ab ac ad bc")
        flat = Flat(web, [[(0, 0), (1, 0), (2, 0)], [(3, 0), (0, 1)], [(1, 1), (3, 1)], [(2, 1)]])
        inner = next(face for face in flat.faces() if len(face) == 3)
        self.assertEqual(inner, ((0, 1), (1, 0), (3, 1)))

    def test_trees_have_one_face(self):
        chance = random.Random(130)
        for each in range(30):
            web, turns = flat_pair(chance, chance.randint(1, 12), 1)
            flat = Flat(web, turns)
            self.assertEqual(len(flat.faces()), 1)
            self.assertEqual(len(flat.faces()[0]), 2 * web.many())

    def test_several_ties_between_two_places(self):
        for many in range(1, 13):
            web = Web(["a", "b"], [("a", "b")] * many)
            ahead = [(k, 0) for k in range(many)]
            back = [(k, 1) for k in reversed(range(many))]
            flat = Flat(web, [ahead, back])
            self.assertEqual(len(flat.faces()), many)
            for face in flat.faces():
                self.assertEqual(len(face), 2)
        # In the same order at both places they stand across.
        with self.assertRaises(NoFlat):
            Flat(Web(["a", "b"], [("a", "b")] * 3), [[(k, 0) for k in range(3)], [(k, 1) for k in range(3)]])

    def test_as_large_as_can_be(self):
        chance = random.Random(131)
        for places, faces in [(12, 12), (12, 1), (1, 12), (12, 2), (7, 12)]:
            for each in range(4):
                web, turns = flat_pair(chance, places, faces)
                flat = Flat(web, turns)
                self.assertEqual((len(flat.web().places()), len(flat.faces())), (places, faces))
                for other in range(2):
                    flat = flat.other_web()
                self.assertEqual((len(flat.web().places()), len(flat.faces())), (places, faces))

    def test_of_many(self):
        for web, turns in flat_pairs(132, 250, 8, 8):
            flat = Flat(web, turns)
            self.assertEqual(flat.faces(), plain_faces(turns))
            self.assertEqual(flat.turns(), [from_least(row) for row in turns])
            self.assertEqual(state(flat.web()), state(web))
            ends = sorted(end for face in flat.faces() for end in face)
            self.assertEqual(ends, sorted((k, side) for k in range(web.many()) for side in (0, 1)))
            self.assertTrue(all(face == () or face[0] == min(face) for face in flat.faces()))
            self.assertEqual(flat.faces(), sorted(flat.faces()))

    def test_where_a_list_begins_has_no_bearing(self):
        chance = random.Random(133)
        for web, turns in flat_pairs(134, 60):
            flat = Flat(web, turns)
            for each in range(3):
                cuts = [chance.randrange(len(row) + 1) for row in turns]
                other = Flat(turns=[row[at:] + row[:at] for row, at in zip(turns, cuts)], web=web)
                self.assertEqual((other.turns(), other.faces()), (flat.turns(), flat.faces()))
                self.assertEqual(other.other_web().turns(), flat.other_web().turns())

    def test_just_what_has_so_many_faces(self):
        seen = {True: 0, False: 0}
        chance = random.Random(135)
        for web in hanging_webs(136, 120, 5, 7) + [LOOPS, make("a", "aa aa aa"), RING]:
            for each in range(4):
                turns = shuffled(web, chance)
                faces = plain_faces(turns)
                due = len(faces) + len(web.places()) == web.many() + 2
                seen[due] += 1
                if due:
                    self.assertEqual(Flat(web, turns).faces(), faces)
                else:
                    with self.assertRaises(NoFlat):
                        Flat(web, turns)
        self.assertGreater(min(seen.values()), 80)

    def test_what_is_told_is_taken_again(self):
        for web, turns in flat_pairs(137, 40, 8, 8):
            flat = Flat(web, turns)
            again = Flat(flat.web(), flat.turns())
            self.assertEqual((again.turns(), again.faces()), (flat.turns(), flat.faces()))


class Refused(unittest.TestCase):
    def no_turns(self):
        """Things that are no turns of the ring, nor of any other web of three ties."""
        a, b, c = RING_TURNS
        rows = [
            # An end that is missing, twice, at another place, or not there.
            [], [a], [a[:1]], [], a + a, [a[0], a[0]], [(0, 0), (1, 1)], [(0, 0), (0, 1)], [(0, 0), (3, 0)],
            [(0, 0), (2, 2)], [(0, 0), (2, -1)], [(-1, 0), (0, 0)], [(0, 0), (2, 0), (1, 0)], [(0, 0), (10 ** 40, 0)],
            # Other kinds.
            [(0, False), (2, 0)], [(False, 0), (2, 0)], [(0, 0), (2, False)], [[0, 0], [2, 0]], [(0, 0), [2, 0]],
            ((0, 0), (2, 0)), [(0, 0), (2, 0, 0)], [(0, 0), (2,)], [(0, 0), ()], [(0, 0), None], [(0, 0), "20"],
            [(0, 0), ("2", "0")], [(0, 0), (2, None)], [(0, 0), (2, Stubborn())], [(0, 0), (Stubborn(), 0)],
            [(0, 0), Stubborn()], [(0, 0), 2], [(0, 0), (2 + 0j, 0)], {(0, 0): 1, (2, 0): 1}, "0020", b"0020", None,
            True, 0, Stubborn(), endless(), [endless(), endless()], [(0, 0)] * 100000, range(2), iter(a),
            [(0, 0), ((2, 0),)], [(0, 0), ([], {})], [(0, 0), b"20"], {(0, 0), (2, 0)},
        ]
        found = [[row, b, c] for row in rows]
        found += [[a, b], [a, b, c, []], [a, c, b], [b, a, c], [a, b, c, c], (a, b, c), {0: a, 1: b, 2: c}, [a, b, None]]
        found += [[a, [(0, True), (1, 0)], c], [a, [(0, 1), (True, 0)], c], [a, b, [(True, True), (2, True)]]]
        found += [[a + b, [], c], [a + b + c, [], []], [[], [], []], iter([a, b, c]), [a, b, c][:0], "abc", endless()]
        return found

    def test_no_flat_of_anything(self):
        Flat(RING, RING_TURNS)
        for thing in self.no_turns() + odd_things():
            with self.assertRaises(NoFlat):
                Flat(RING, thing)
            with self.assertRaises(NoFlat):
                Flat(turns=thing, web=RING)

    def test_no_flat_of_one_place(self):
        for thing in [thing for thing in odd_things() if repr(thing) not in ("[[]]", "[[...]]")] + [[[], []], [()], [{}]]:
            with self.assertRaises(NoFlat):
                Flat(make("a", ""), thing)
        with self.assertRaises(NoFlat):
            Flat(make("a", ""), [[(0, 0)]])
        with self.assertRaises(NoFlat):
            Flat(make("a", ""), [[(0, 0), (0, 1)]])

    def test_a_web_that_does_not_hang(self):
        chance = random.Random(138)
        for web in apart() + [make("a b", "aa bb"), make("a b c", "")]:
            for thing in [shuffled(web, chance), None, [], [[]]]:
                with self.assertRaises(NoFlat):
                    Flat(web, thing)

    def test_more_than_twelve_faces(self):
        chance = random.Random(139)
        for places in [1, 2, 5, 12]:
            for faces in [13, 14, 15]:
                web, turns = flat_pair(chance, places, faces)
                self.assertEqual(len(plain_faces(turns)), faces)
                with self.assertRaises(NoFlat):
                    Flat(web, turns)
        web = Web(["a", "b"], [("a", "b")] * 13)
        with self.assertRaises(NoFlat):
            Flat(web, [[(k, 0) for k in range(13)], [(k, 1) for k in reversed(range(13))]])


class OtherWeb(unittest.TestCase):
    def test_some(self):
        other = Flat(RING, RING_TURNS).other_web()
        self.assertIsInstance(other, Flat)
        self.assertEqual(other.web().places(), ["a", "b"])
        # The face a is that of (0, 0), (1, 0) and (2, 1).
        self.assertEqual(other.web().ties(), [("b", "a"), ("b", "a"), ("a", "b")])
        self.assertEqual(other.turns(), [[(0, 1), (2, 0), (1, 1)], [(0, 0), (1, 0), (2, 1)]])
        other = Flat(make("q", ""), [[]]).other_web()
        self.assertEqual((state(other.web()), other.turns(), other.faces()), (state(make("a", "")), [[]], [()]))
        other = Flat(make("q", "qq"), [[(0, 1), (0, 0)]]).other_web()
        self.assertEqual((other.web().ties(), other.turns()), ([("b", "a")], [[(0, 1)], [(0, 0)]]))
        other = Flat(make("q r", "qr"), [[(0, 0)], [(0, 1)]]).other_web()
        self.assertEqual((other.web().ties(), other.turns()), ([("a", "a")], [[(0, 0), (0, 1)]]))

    def test_of_many(self):
        for web, turns in flat_pairs(140, 200, 8, 12):
            flat = Flat(web, turns)
            faces, other = flat.faces(), flat.other_web()
            self.assertEqual(other.web().places(), list("abcdefghijkl"[:len(faces)]))
            self.assertEqual(other.web().many(), web.many())
            for k in range(web.many()):
                ends = [next(at for at, face in enumerate(faces) if (k, side) in face) for side in (1, 0)]
                self.assertEqual(other.web().tie(k), tuple("abcdefghijkl"[at] for at in ends))
            due = [from_least([(k, 1 - side) for k, side in reversed(face)]) for face in faces]
            self.assertEqual(other.turns(), due)
            self.assertEqual(len(other.faces()), len(web.places()))

    def test_the_other_of_the_other(self):
        for web, turns in flat_pairs(141, 200, 8, 8):
            flat = Flat(web, turns)
            twice = flat.other_web().other_web()
            self.assertEqual(len(twice.web().places()), len(web.places()))
            names = {}
            for k, (a, b) in enumerate(web.ties()):
                one, other = twice.web().tie(k)
                names.setdefault(b, one)
                names.setdefault(a, other)
                self.assertEqual((names[b], names[a]), (one, other))
            self.assertEqual(len(set(names.values())), len(names))
            for place, row in zip(web.places(), flat.turns()):
                if row:
                    at = twice.web().places().index(names[place])
                    self.assertEqual(twice.turns()[at], from_least([(k, 1 - side) for k, side in row]))


class Kept(unittest.TestCase):
    def test_what_is_handed_in(self):
        turns = [list(row) for row in RING_TURNS]
        kept = repr(turns)
        flat = Flat(RING, turns)
        before = (flat.turns(), flat.faces(), flat.other_web().turns(), state(flat.web()))
        self.assertEqual(repr(turns), kept)
        turns[0].reverse()
        turns[1].append(None)
        turns.pop()
        self.assertEqual((flat.turns(), flat.faces(), flat.other_web().turns(), state(flat.web())), before)
        self.assertEqual(state(RING), state(make("a b c", "ab bc ac")))

    def test_what_is_told(self):
        flat = Flat(RING, RING_TURNS)
        before = (flat.turns(), flat.faces())
        told = flat.turns()
        told[0].reverse()
        told[1].clear()
        told.pop()
        faces = flat.faces()
        faces.clear()
        other = flat.other_web()
        other.turns().clear()
        self.assertEqual((flat.turns(), flat.faces()), before)
        self.assertEqual(flat.other_web().turns(), other.turns())


if __name__ == "__main__":
    unittest.main()
