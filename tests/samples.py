"""Webs and odd things that several tests use, and slow plain ways to know the right answer."""

import itertools
import random

from cutmeet.errors import Apart, NoMeeter, NoTie
from cutmeet.webs import Web


class Stubborn:
    """A thing that can't be compared, hashed, measured, walked or asked for its truth."""

    def refuse(self, *others):
        raise RuntimeError("asked")

    __eq__ = __ne__ = __lt__ = __gt__ = __le__ = __ge__ = refuse
    __hash__ = __len__ = __iter__ = __bool__ = __getitem__ = __contains__ = refuse
    __int__ = __index__ = __str__ = refuse


def endless():
    """A list that holds itself."""
    thing = []
    thing.append(thing)
    return thing


def odd_things():
    """Things that are no name, no place, no number of a tie, no cut, no web's text."""
    return [
        None, True, False, -1, 99, 10 ** 40, "", "A", "a1", "a b", "a\n", "\n", " ", "toolongname", "\u00e4", "\ud800",
        b"a", b"", [], ["a"], [0], [[]], (), (0,), (None,), ([],), ({},), (True,), ("a", None), ("a", []), ("a", {}),
        ((),), {}, {"a": 1}, {"a"}, frozenset("a"), range(2), object(), Stubborn(), (Stubborn(),), ("a", Stubborn()),
        [Stubborn()], endless(), (endless(),), len, str, ValueError("a"), Web(["a"], []), iter("a"), 1j, bytearray(b"a"),
    ]


def make(places, ties):
    """A web of places and ties told as words: make("a b c", "ab bc")."""
    return Web(places.split(), [(tie[0], tie[1]) for tie in ties.split()])


def named_webs():
    """Webs of the forms that are worth a look each."""
    return [
        make("a", ""),
        make("a", "aa aa"),
        make("a b", ""),
        make("a b", "ab"),
        make("a b", "ab ba"),
        make("b a", "ab ab bb"),
        make("a b c", "ab bc ca"),
        make("c b a", "ab cb"),
        make("a b c", "ba bc"),
        make("a b c d", "ab ba cd"),
        make("a b c d", "ab bc cd"),
        make("d a c b", "ab ba bc cd dc dd"),
        make("a b c d e", "ab cb cd ed"),
        make("a b c d e", "ab bc ca cd de ed ab"),
        make("a b c d e f", "ab bc ca de ef"),
        Web(["z", "aa", "a", "longname"], [("z", "aa"), ("a", "aa"), ("longname", "z")]),
    ]


def chance_web(chance, most=7, ties=14):
    """A web that a seeded source picks."""
    letters = "abcdefghijkl"[:chance.randint(1, most)]
    places = [letter * chance.randint(1, 3) for letter in letters]
    chance.shuffle(places)
    many = chance.randint(0, ties)
    return Web(places, [(chance.choice(places), chance.choice(places)) for each in range(many)])


def chance_webs(seed, many, most=7, ties=14):
    chance = random.Random(seed)
    return [chance_web(chance, most, ties) for each in range(many)]


def all_webs(seed=1, many=120):
    return named_webs() + chance_webs(seed, many)


def hanging(webs):
    """Those of the webs that have one piece."""
    return [web for web in webs if len(plain_pieces(web, web.places())) == 1]


def hanging_web(chance, most, ties):
    """A web that hangs, most of its ties in one sense, so that it has cuts, told by a seeded source."""
    places = list("abcdefghijkl"[:chance.randint(2, most)])
    chance.shuffle(places)
    pairs = [(chance.choice(places[:at]), places[at]) for at in range(1, len(places))]
    while len(pairs) < ties and chance.random() < 0.8:
        pairs.append((chance.choice(places), chance.choice(places)))
    # Mostly along the letters, so that there are few rings.
    pairs = [tuple(sorted(pair, reverse=chance.random() < 0.15)) for pair in pairs]
    chance.shuffle(pairs)
    return Web(places, pairs)


def hanging_webs(seed, many, most=6, ties=10):
    """Webs that hang: the named ones, and some that a seeded source picks."""
    chance = random.Random(seed)
    return hanging(named_webs()) + [hanging_web(chance, most, ties) for each in range(many)]


def apart():
    """Webs that do not hang."""
    return [
        make("a b", ""), make("a b c", "bc"), make("a b c d", "ab ba cd"), make("a b c d e f", "ac ca bd ef fe"),
        make("b a c", "bc aa"), make("a b c", "ab ba"),
    ]


def plain_reach(places, ties):
    """Which pairs (a, b) there are such that a reaches b, with the fewest ties that it takes."""
    far = {(a, b): 0 if a == b else 99 for a in places for b in places}
    for a, b in ties:
        if a != b:
            far[a, b] = 1
    for via, a, b in itertools.product(places, repeat=3):
        far[a, b] = min(far[a, b], far[a, via] + far[via, b])
    return {pair: steps for pair, steps in far.items() if steps < 99}


def both_ways(ties):
    return ties + [(b, a) for a, b in ties]


def classes(places, together):
    """The rising tuples of places that are together."""
    return sorted({tuple(b for b in sorted(places) if (a, b) in together and (b, a) in together) for a in places})


def other_names(web):
    """Another name for each place, in another order than the places' own."""
    places = web.places()
    return {place: "zyxwvutsrqpo"[at] + "q" for at, place in enumerate(places)}


def with_names(web, names):
    places = [names[place] for place in web.places()]
    return Web(places, [(names[a], names[b]) for a, b in web.ties()])


def all_turned(web):
    return Web(web.places(), [(b, a) for a, b in web.ties()])


def put(names, places):
    """A rising tuple of places, under their other names."""
    return tuple(sorted(names[place] for place in places))


def put_all(names, tuples):
    return sorted(put(names, places) for places in tuples)


def state(web):
    return (web.places(), web.ties(), web.many())


def plain_cuts(web):
    """All cuts of a web, by trying all sets of places."""
    places = web.places()
    found = []
    for many in range(1, len(places)):
        for some in itertools.combinations(places, many):
            if all(b in some for a, b in web.ties() if a in some):
                found.append(some)
    return sorted(found)


def plain_pieces(web, among):
    ties = [(a, b) for a, b in web.ties() if a in among and b in among]
    return classes(among, plain_reach(among, both_ways(ties)))


def others(web, places):
    return tuple(place for place in web.places() if place not in places)


def plain_ties(web, cut):
    """The ties of a cut, by a look at each."""
    return [k for k, (a, b) in enumerate(web.ties()) if a not in cut and b in cut]


def plain_cross(web, cut, other):
    one, two, places = set(cut), set(other), set(web.places())
    return bool(one & two and one - two and two - one and places - one - two)


def families(web, seed, many, most=8):
    """Some families of cuts of the web, with cuts more than once, and the empty one."""
    cuts = plain_cuts(web)
    chance = random.Random(seed)
    picked = [[chance.choice(cuts) for each in range(chance.randint(1, most))] for one in range(many)] if cuts else []
    return [[]] + picked


def no_cuts():
    """Things that are no cut of any web with the places a to e, but as these themselves may be."""
    return [
        (), ["a"], "a", "ab", None, 0, True, ("z",), ("b", "a"), ("a", "a"), ("a", None), ("a", []), ({},), (("a",),),
        ("a", Stubborn()), {"a": True}, ("a", "b", "c", "d", "e", "f", "g"), Stubborn(), endless(), 10 ** 40,
    ]


def not_ties(many):
    """Things that are no list of ties of a web of so many ties, three at least."""
    return [
        [1, 0], [0, 0], [0, 2, 1], [0, 1, 1], [True], [False], [0, True], [False, 1], [-1], [-1, 0], [many], [0, many],
        [10 ** 40], [-(10 ** 40)], ["0"], [0, "1"], [None], [0, None], [[]], [[0]], [(0,)], [{}], [0, Stubborn()],
        [Stubborn()], [b"0"], [1j], list(range(many + 1)), list(range(many)) * 2, [0] * 100000, (0,), (), "", "0", "01",
        None, True, False, 0, 1, {}, {0: 1}, {0}, set(), range(2), b"", b"0", endless(), object(), Stubborn(), iter([0]),
        bytearray(b""), len, 10 ** 40,
    ] + [thing for thing in odd_things() if repr(thing) not in ("[]", "[0]")]


def plain_meets(cuts_ties, ties):
    """Whether these ties have one in each of the cuts, told by their ties."""
    return all(any(k in ties for k in held) for held in cuts_ties)


def all_lists(many):
    """All lists of ties of a web of so many ties, the shorter ones first."""
    return [list(some) for size in range(many + 1) for some in itertools.combinations(range(many), size)]


def held_ties(web):
    """Of each cut its ties."""
    return [plain_ties(web, cut) for cut in plain_cuts(web)]


def plain_meeters(web):
    """All meeters of a small web, the shorter ones first."""
    held = held_ties(web)
    return [ties for ties in all_lists(web.many()) if plain_meets(held, ties)]


def plain_tights(web, ties):
    """All cuts that have just one of these ties."""
    return [cut for cut in plain_cuts(web) if len([k for k in plain_ties(web, cut) if k in ties]) == 1]


def lean_list(web, chance):
    """A meeter of which a seeded source has left out what it could, but for a few."""
    held = held_ties(web)
    ties = list(range(web.many()))
    for k in chance.sample(ties, len(ties)):
        without = [other for other in ties if other != k]
        if chance.random() < 0.9 and plain_meets(held, without):
            ties = without
    return ties


def large_webs(seed, many):
    """Webs of twelve places and thirty ties that hang, with few rings or none, told by a seeded source."""
    chance = random.Random(seed)
    found = []
    for each in range(many):
        places = list("abcdefghijkl")
        pairs = [(chance.choice(places[:at]), places[at]) for at in range(1, 12)]
        wide = chance.choice([2, 4, 11])
        while len(pairs) < 30:
            at = chance.randrange(11)
            pairs.append((places[at], places[min(11, at + chance.randint(1, wide))]))
        turn = chance.choice([0, 0.05, 0.1])
        pairs = [pair[::-1] if chance.random() < turn else pair for pair in pairs]
        chance.shuffle(pairs)
        found.append(with_names(Web(places, pairs), dict(zip(places, chance.sample(places, 12)))))
    return found


class Refusals:
    """What is refused with Apart, NoTie and NoMeeter, in this order, by whatever asks for a meeter; for test cases.

    An ask is a def of a web and a list of ties.
    """

    def refuse_apart(self, ask):
        for web in apart():
            for thing in [[]] + not_ties(web.many()):
                with self.assertRaises(Apart) as taken:
                    ask(web, thing)
                self.assertIn(taken.exception.cut, plain_cuts(web))
                self.assertEqual(plain_ties(web, taken.exception.cut), [])

    def refuse_no_tie(self, ask):
        for web in [make("a b c d", "ab bc cd"), make("a b c", "ab bc ca"), make("a b", "ab ba ab")]:
            for thing in not_ties(web.many()):
                with self.assertRaises(NoTie):
                    ask(web, thing)

    def refuse_no_meeter(self, ask):
        for web in hanging_webs(64, 25, 5, 6):
            held = held_ties(web)
            for ties in all_lists(web.many()):
                if not plain_meets(held, ties):
                    with self.assertRaises(NoMeeter) as taken:
                        ask(web, ties)
                    cut = taken.exception.cut
                    self.assertIn(cut, plain_cuts(web))
                    self.assertEqual([k for k in plain_ties(web, cut) if k in ties], [])

    def refuse_all(self, ask):
        self.refuse_apart(ask)
        self.refuse_no_tie(ask)
        self.refuse_no_meeter(ask)


def spoil(chance, deed, ties, rows, cuts):
    """Change one thing of a paper's ties and cuts with times, by one of four deeds."""
    if deed == 0 and rows:
        at = chance.randrange(len(rows))
        rows[at] = (rows[at][0], rows[at][1] + chance.choice([-1, 1]))
    elif deed == 1 and cuts:
        rows.append((chance.choice(cuts), 1))
        rows.sort()
    elif deed == 2 and rows:
        rows.pop(chance.randrange(len(rows)))
    elif deed == 3 and ties:
        ties.pop(chance.randrange(len(ties)))


class Growing:
    """A flat web that grows by ties drawn within one of its faces; for test cases."""

    def __init__(self):
        self.rows = [[]]
        self.ties = []

    def corners(self):
        """The faces, each as a list of corners (place, at): a tie may be put in ahead of what stands there."""
        spots = {end: (place, at) for place, row in enumerate(self.rows) for at, end in enumerate(row)}
        if not spots:
            return [[(0, 0)]]
        left, found = set(spots), []
        while left:
            end = first = min(left)
            face = []
            while True:
                left.discard(end)
                face.append(spots[end])
                place, at = spots[end[0], 1 - end[1]]
                end = self.rows[place][(at + 1) % len(self.rows[place])]
                if end == first:
                    break
            found.append(face)
        return found

    def sprout(self, chance):
        """A new place, with a tie from or to it."""
        place, at = chance.choice(chance.choice(self.corners()))
        side, k, fresh = chance.randrange(2), len(self.ties), len(self.rows)
        self.rows[place].insert(at, (k, side))
        self.rows.append([(k, 1 - side)])
        self.ties.append((place, fresh) if side == 0 else (fresh, place))

    def span(self, chance):
        """A new tie across a face, perhaps from a corner to itself."""
        face = chance.choice(self.corners())
        one, other = chance.choice(face), chance.choice(face)
        side, k = chance.randrange(2), len(self.ties)
        ends = [(one, (k, side)), (other, (k, 1 - side))]
        for (place, at), end in sorted(ends, key=lambda row: row[0][1], reverse=True):
            self.rows[place].insert(at, end)
        self.ties.append((one[0], other[0]) if side == 0 else (other[0], one[0]))

    def told(self, chance):
        """The web and its turns, each list from any end on."""
        names = chance.sample("abcdefghijkl", len(self.rows))
        web = Web(names, [(names[a], names[b]) for a, b in self.ties])
        rows = [self.rows[names.index(name)] for name in web.places()]
        cuts = [chance.randrange(len(row)) if row else 0 for row in rows]
        return (web, [row[at:] + row[:at] for row, at in zip(rows, cuts)])


def flat_pair(chance, places, faces):
    """A web with turns that make it flat, of so many places and faces, told by a seeded source."""
    deeds = ["sprout"] * (places - 1) + ["span"] * (faces - 1)
    chance.shuffle(deeds)
    growing = Growing()
    for deed in deeds:
        growing.sprout(chance) if deed == "sprout" else growing.span(chance)
    return growing.told(chance)


def flat_pairs(seed, many, places=6, faces=6):
    """Some webs with turns that make them flat, of so many places and faces at most."""
    chance = random.Random(seed)
    return [flat_pair(chance, chance.randint(1, places), chance.randint(1, faces)) for each in range(many)]
