import random
import unittest

from cutmeet.bares import parted
from cutmeet.changes import joined, with_tie, without_tie
from cutmeet.cuts import all_cuts
from cutmeet.desk import Desk
from cutmeet.drawn import drawn, idle
from cutmeet.errors import (
    Apart, Bridge, NoCut, NoName, NoPlace, NoRow, NoText, NoTie, NoWeb, NoWeights, TooFew, TooMany, WebError,
)
from cutmeet.leasts import least
from cutmeet.meeters import missed
from cutmeet.needs import needs_paper
from cutmeet.papers import paper
from cutmeet.shows import read_row, show_cut, show_cuts, show_ties, show_web
from cutmeet.turned import bridges, fewest_turned, turned_about
from cutmeet.ways import reached, way
from cutmeet.weights import full_paper
from samples import Stubborn, all_webs, make, odd_things

# Two ways from a to d, told by the name round; a line of two ties; two places that do not hang; a ring.
ROUND = "places a b c d; a > b; b > d; a > c; c > d"
LINE = "places a b c; a > b; b > c"
LOOSE = "places a b"
RING = "places a b c; a > b; b > c; c > a"
STOOD = {"round": ROUND, "line": LINE, "loose": LOOSE, "ring": RING}


def desk():
    """A desk by which these webs stand."""
    made = Desk()
    for name, row in STOOD.items():
        if made.say(f"web {name} {row}") != "ok":
            raise AssertionError(name)
    return made


def standing(made, names):
    """What stands by these names, None by which nothing does."""
    found = {}
    for name in names:
        try:
            found[name] = made.say(f"text {name}")
        except NoName:
            found[name] = None
    return found


def plain_answer(web, row):
    """What is to be answered to a row that asks of one web, by the functions."""
    word, *words = row.split(" ")
    numbers = [int(one) for one in words[1:]] if word in ("miss", "lightest", "times") else []
    answers = {
        "text": lambda: show_web(web),
        "reach": lambda: " ".join(reached(web, words[1])),
        "way": lambda: show_ties(way(web, words[1], words[2])),
        "cuts": lambda: show_cuts(all_cuts(web)),
        "least": lambda: show_cut(least(web, words[1], words[2])),
        "bare": lambda: show_cuts(parted(web, tuple(words[1].split("+")))),
        "miss": lambda: show_cut(missed(web, numbers)),
        "fewest": lambda: " / ".join([show_ties(paper(web)[0]), show_cuts(paper(web)[1])]),
        "lightest": lambda: " / ".join([show_ties(full_paper(web, numbers)[0]), show_cuts(full_paper(web, numbers)[1])]),
        "times": lambda: " / ".join([show_ties(needs_paper(web, numbers[0])[0]),
                                     show_cuts(needs_paper(web, numbers[0])[1])]),
        "idle": lambda: show_ties(idle(web)),
        "bridges": lambda: show_ties(bridges(web)),
        "turns": lambda: show_ties(fewest_turned(web)),
    }
    return answers[word]()


class Rows(unittest.TestCase):
    def check(self, made, rows):
        for row, due in rows:
            self.assertEqual(made.say(row), due, row)

    def test_web_and_text(self):
        made = Desk()
        self.check(made, [
            ("web a places a", "ok"), ("text a", "places a"), ("web longname " + ROUND, "ok"), ("text longname", ROUND),
            ("web web places web; web > web", "ok"), ("text web", "places web; web > web"), ("text a", "places a"),
        ])
        # A web told by a name that stands takes the elder one's place.
        self.check(made, [("web a places b c; b > c", "ok"), ("text a", "places b c; b > c"), ("text longname", ROUND)])
        self.assertEqual(made.say(row="text a"), "places b c; b > c")

    def test_of_places_and_cuts(self):
        self.check(desk(), [
            ("reach round a", "a b c d"), ("reach round d", "d"), ("reach ring b", "a b c"), ("way line a c", "0 1"),
            ("way line a a", "-"), ("way line c a", "none"), ("way ring c b", "2 0"), ("cuts line", "b+c c"),
            ("cuts round", "b+c+d b+d c+d d"), ("cuts ring", "-"), ("cuts loose", "a b"), ("least line b a", "b+c"),
            ("least line a b", "none"), ("least line a a", "none"), ("least loose a b", "a"), ("bare line b+c", "b+c"),
            ("bare round b+d", "b+d"),
        ])
        made = desk()
        self.check(made, [("web star places a b c; a > b; a > c", "ok"), ("bare star b+c", "b c")])

    def test_of_ties(self):
        self.check(desk(), [
            ("miss line 0 1", "none"), ("miss line 0", "c"), ("miss line 1", "b+c"), ("miss ring", "none"),
            ("fewest line", "0 1 / b+c c"), ("fewest ring", "- / -"), ("lightest line 5 7", "0 1 / b+c*5 c*7"),
            ("lightest line 999999999999 1", "0 1 / b+c*999999999999 c*1"), ("lightest ring 3 3 3", "- / -"),
            ("times line 1", "0 1 / b+c*1 c*1"), ("times ring 999999999999", "- / -"), ("idle line", "-"),
            ("idle ring", "0 1 2"), ("idle loose", "-"), ("bridges line", "0 1"), ("bridges ring", "-"),
            ("turns ring", "-"),
        ])
        made = desk()
        self.assertIn(made.say("turns round"), ["0 1", "2 3"])
        self.assertIn(made.say("miss line"), ["b+c", "c"])
        self.check(made, [("web lone places a", "ok"), ("lightest lone", "- / -"), ("fewest lone", "- / -")])
        self.check(made, [("web wide places a b; a > b; a > b", "ok"), ("times wide 2", "0 1 / b*1")])

    def test_of_changed_webs(self):
        made = desk()
        self.check(made, [
            ("draw new line 0", "ok"), ("text new", "places a c; a > a; a > c"), ("draw new line 0 1", "ok"),
            ("text new", "places a; a > a; a > a"), ("turn new line 1", "ok"), ("text new", "places a b c; a > b; c > b"),
            ("turn new round 0 1 3", "ok"), ("text new", "places a b c d; b > a; d > b; a > c; d > c"),
            ("more new line c a", "ok"), ("text new", "places a b c; a > b; b > c; c > a"),
            ("less new ring 1", "ok"), ("text new", "places a b c; a > b; c > a"), ("web tail places c x; x > c", "ok"),
            ("join new line tail", "ok"), ("text new", "places a b c x; a > b; b > c; x > c"),
            ("join new tail line", "ok"), ("text new", "places a b c x; x > c; a > b; b > c"),
        ])
        # The new name may be that of the web itself.
        self.check(made, [("more line line c a", "ok"), ("text line", RING), ("less line line 0", "ok"),
                          ("text line", "places a b c; b > c; c > a"), ("web one places a", "ok"),
                          ("join one one one", "ok"), ("text one", "places a")])
        self.assertEqual(standing(made, STOOD), {**STOOD, "line": "places a b c; b > c; c > a"})

    def test_of_many_webs(self):
        chance = random.Random(210)
        seen = {True: 0, False: 0}
        made = Desk()
        for web in all_webs(211, 60):
            self.assertEqual(made.say(f"web n {show_web(web)}"), "ok")
            places, ties = web.places(), range(web.many())
            cuts = show_cuts(all_cuts(web)).split(" ")
            some = sorted(chance.sample(ties, chance.randint(0, web.many())))
            rows = ["text n", "cuts n", "fewest n", "idle n", "bridges n", "turns n", f"reach n {chance.choice(places)}",
                    f"way n {chance.choice(places)} {chance.choice(places)}",
                    f"least n {chance.choice(places)} {chance.choice(places)}", f"times n {chance.randint(1, 3)}",
                    " ".join(["miss n"] + [str(k) for k in some]), f"bare n {chance.choice(places)}",
                    " ".join(["lightest n"] + [str(chance.choice([0, 1, 5, 999999999999])) for k in ties])]
            if cuts != ["-"]:
                rows.append(f"bare n {chance.choice(cuts)}")
            for row in rows:
                seen[self.check_same(made, web, row)] += 1
        self.assertGreater(min(seen.values()), 50)

    def check_same(self, made, web, row):
        """Whether the row is answered; it is so, or refused, as by the functions."""
        try:
            due = plain_answer(web, row)
        except WebError as error:
            with self.assertRaises(error.__class__):
                made.say(row)
            return False
        self.assertEqual(made.say(row), due, row)
        return True

    def test_changes_of_many_webs(self):
        chance = random.Random(212)
        made = Desk()
        for web in all_webs(213, 60):
            made.say(f"web n {show_web(web)}")
            made.say(f"web o places {web.places()[0]} zzzz; zzzz > {web.places()[0]}")
            one, other = chance.choice(web.places()), chance.choice(web.places())
            rows = [(f"more m n {one} {other}", with_tie(web, one, other)),
                    ("join m n o", joined(web, read_row(made.say("text o"))))]
            if web.many():
                some = sorted(chance.sample(range(web.many()), chance.randint(1, web.many())))
                words = " ".join(str(k) for k in some)
                rows += [(f"draw m n {words}", drawn(web, some)), (f"turn m n {words}", turned_about(web, some)),
                         (f"less m n {some[0]}", without_tie(web, some[0]))]
            for row, due in rows:
                self.assertEqual(made.say(row), "ok")
                self.assertEqual(made.say("text m"), show_web(due))
                self.assertEqual(made.say("text n"), show_web(web))


class NoRows(unittest.TestCase):
    NONE = [
        "", " ", "  ", "\n", "-", "text", "text ", " text line", "text  line", "text line ", "text line line", "Text line",
        "TEXT line", "texts line", "text\tline", "line", "line text", "reach line", "reach line ", "reach line a b",
        "reach line  a", "reach  line a", "reach line a ", " reach line a", "Reach line a", "way line a", "way line",
        "way line a b c", "way line a  b", "way line a b ", "cuts", "cuts ", "cuts line a", "cuts line ", "Cuts line",
        "least line", "least line a", "least line a b c", "least line a ", "bare line", "bare line ", "bare line a b",
        "bare line a+", "bare line +a", "bare line a++b", "bare line +", "bare line A", "bare line a+B", "bare line a,b",
        "bare line toolongname", "bare line a+toolongname", "bare line a1", "bare line 1", "bare line a+b+", "bare line -",
        "miss", "miss ", "miss line ", "miss line a", "miss line 00", "miss line 01", "miss line 0 01", "miss line +1",
        "miss line -1", "miss line 1.", "miss line 1,2", "miss line 0  1", "miss line 0 1 ", "miss line 0 x", "miss line -",
        "miss line 1000000000000", "miss line 0000000000001", "miss line 0x1", "miss line 1_0", "miss line \u0661",
        "miss line \u00b2", "miss line 1\n", "fewest", "fewest ", "fewest line 1", "fewest line line", "lightest",
        "lightest ", "lightest line ", "lightest line 1 -1", "lightest line 1 01", "lightest line 1 1000000000000",
        "lightest line 1 1 a", "lightest line 1  1", "lightest line 1 1 ", "times", "times line", "times line 0",
        "times line 00", "times line 01", "times line 1 2", "times line a", "times line -1", "times line +1", "times line ",
        "times line 1000000000000", "times ring 0", "times loose 0", "idle", "idle ", "idle line 1", "bridges",
        "bridges line 0", "turns", "turns line 0", "turns ", "draw", "draw new", "draw new line", "draw new line ",
        "draw new line a", "draw new line 00", "draw new line 0 ", "draw new  0", "draw  line 0", "draw new line 0  1",
        "draw new line -", "turn new line", "turn new line 01", "turn new line x", "turn new line ", "turn line 0",
        "more new line a", "more new line", "more new line a b c", "more new line a ", "more  line a b", "more new  a b",
        "less new line", "less new line 0 1", "less new line 00", "less new line a", "less new line -1", "less new line ",
        "less new line 1000000000000", "join new line", "join new line round ring", "join new line ", "join  line round",
        "join new", "join", "web", "web ", "web new", "web new ", "web  places a", "web  ", "Web new places a", "WEB new x",
        " web new places a", "webs new places a", "webnew places a", "help", "web\nnew places a", "\u00e4", "drawn new line 0",
        "turned new line 0", "missed line", "times line 1\n", "say text line", "text+line", "1", "0 1",
    ]

    def test_listed(self):
        made = desk()
        names = list(STOOD) + ["new"]
        for row in self.NONE:
            with self.assertRaises(NoRow, msg=row):
                made.say(row)
            with self.assertRaises(NoRow, msg=row):
                made.say(row=row)
        self.assertEqual(standing(made, names), {**STOOD, "new": None})

    def test_no_row_of_anything(self):
        made = desk()
        for thing in odd_things() + [b"text line", ["text line"], ["text", "line"], ("text", "line"), Stubborn(), None, 0]:
            with self.assertRaises(NoRow):
                made.say(thing)

    def test_no_row_ahead_of_no_name(self):
        made = desk()
        for row in ["reach none", "miss none 01", "draw N none", "bare none A", "times none 0", "web N ", "less N none 00",
                    "join N none", "draw N none x", "lightest none -1", "bare none a++b", "more N none a", "text none x"]:
            with self.assertRaises(NoRow, msg=row):
                made.say(row)

    def test_twelve_figures(self):
        made = desk()
        with self.assertRaises(NoTie):
            made.say("miss line 999999999999")
        with self.assertRaises(NoTie):
            made.say("less new line 999999999999")
        with self.assertRaises(TooFew):
            made.say("times line 999999999999")


class NoNames(unittest.TestCase):
    def test_no_web_stands_by_it(self):
        made = desk()
        rows = ["text NAME", "reach NAME a", "way NAME a b", "cuts NAME", "least NAME a b", "bare NAME b", "miss NAME",
                "miss NAME 0", "fewest NAME", "lightest NAME", "lightest NAME 1 1", "times NAME 1", "idle NAME",
                "bridges NAME", "turns NAME", "draw new NAME 0", "turn new NAME 0", "more new NAME a b", "less new NAME 0",
                "join new NAME line", "join new line NAME", "join new NAME NAME"]
        for row in rows:
            for name in ["none", "a", "new", "Line", "LINE", "line\n", "l", "lines", "toolongname", "1", "-", "+", "\u00e4"]:
                with self.assertRaises(NoName, msg=row):
                    made.say(row.replace("NAME", name))
        self.assertEqual(standing(made, list(STOOD) + ["new"]), {**STOOD, "new": None})

    def test_what_is_no_name(self):
        made = desk()
        rows = ["web NEW places a", "draw NEW line 0", "turn NEW line 0", "more NEW line a b", "less NEW line 0",
                "join NEW line line"]
        for row in rows:
            for name in ["New", "n1", "toolongname", "n-w", "1", "-", "+", "\u00e4", "new\n", "a+b", ";"]:
                with self.assertRaises(NoName, msg=row):
                    made.say(row.replace("NEW", name))

    def test_ahead_of_what_the_functions_refuse(self):
        made = desk()
        for row in ["web N nothing", "web N  places a", "reach none A", "bare none b+a", "draw N line 99", "draw new none 99",
                    "turn N line 1 0", "more N line x y", "less N line 99", "join N line line", "join new line none",
                    "turns none", "lightest none 1", "times none 99"]:
            with self.assertRaises(NoName, msg=row):
                made.say(row)


class Refused(unittest.TestCase):
    CASES = [
        (NoText, ["web new nothing", "web new  places a", "web new  ", "web new   ", "web new places a ", "web new places b a",
                  "web new places a\n", "web new places a; a > b", "web new places", "web new line", "web new PLACES a",
                  "web line nothing", "web new places a;a > a", "web new " + LINE + ";"]),
        (NoPlace, ["reach line d", "reach line A", "reach line a+b", "reach line 1", "way line a d", "way line d a",
                   "least line a x", "least line x a", "more new line a x", "more new line X b", "reach line a\n"]),
        (NoCut, ["bare line a", "bare line c+b", "bare line c+c", "bare line a+b+c", "bare line z", "bare line b", "bare ring a"]),
        (Apart, ["bare loose a", "bare loose z", "miss loose", "miss loose 0", "fewest loose", "lightest loose",
                 "lightest loose 1", "times loose 1", "bridges loose", "turns loose"]),
        (NoTie, ["miss line 2", "miss line 1 0", "miss line 0 0", "draw new line 2", "draw new line 1 0", "turn new line 1 1",
                 "turn new line 0 9", "less new line 2", "draw new loose 0", "less new loose 0"]),
        (NoWeights, ["lightest line", "lightest line 1", "lightest line 1 1 1", "lightest ring"]),
        (TooFew, ["times line 2", "times round 3"]),
        (Bridge, ["turns line"]),
        (NoWeb, ["join new line line", "join new line ring", "join new loose round", "join line line round"]),
    ]

    def test_listed(self):
        made = desk()
        for kind, rows in self.CASES:
            for row in rows:
                with self.assertRaises(kind, msg=row):
                    made.say(row)
        # What is refused changes nothing.
        self.assertEqual(standing(made, list(STOOD) + ["new"]), {**STOOD, "new": None})

    def test_fields(self):
        made = desk()
        with self.assertRaises(Apart) as taken:
            made.say("fewest loose")
        self.assertIn(taken.exception.cut, [("a",), ("b",)])
        with self.assertRaises(TooFew) as taken:
            made.say("times line 2")
        self.assertIn(taken.exception.cut, [("b", "c"), ("c",)])
        with self.assertRaises(Bridge) as taken:
            made.say("turns line")
        self.assertEqual(taken.exception.number, 0)

    def test_too_many(self):
        made = Desk()
        made.say("web n places a b c d e f g h i j k")
        with self.assertRaises(TooMany):
            made.say("cuts n")
        made.say("web n places a b c d e f g h i j")
        self.assertEqual(len(made.say("cuts n").split(" ")), 1022)

    def test_a_thirty_first_tie(self):
        made = Desk()
        full = show_web(make("a", " ".join(["aa"] * 30)))
        made.say(f"web full {full}")
        with self.assertRaises(NoWeb):
            made.say("more full full a a")
        with self.assertRaises(NoPlace):
            made.say("more full full a b")
        self.assertEqual(made.say("text full"), full)


class Kept(unittest.TestCase):
    def test_two_desks_know_nothing_of_one_another(self):
        one, other = Desk(), Desk()
        one.say("web n places a")
        with self.assertRaises(NoName):
            other.say("text n")
        other.say("web n places b")
        self.assertEqual((one.say("text n"), other.say("text n")), ("places a", "places b"))
        one.say("more n n a a")
        self.assertEqual((one.say("text n"), other.say("text n")), ("places a; a > a", "places b"))
        with self.assertRaises(NoName):
            Desk().say("text n")

    def test_a_web_that_is_told_anew_leaves_others_as_they_were(self):
        made = desk()
        made.say("turn new line 0")
        made.say("web line places q")
        self.assertEqual(made.say("text new"), "places a b c; b > a; b > c")
        self.assertEqual(standing(made, STOOD), {**STOOD, "line": "places q"})

    def test_the_same_asked_again_is_answered_alike(self):
        made = desk()
        for row in ["fewest round", "lightest round 1 1 1 1", "times round 1", "miss round", "turns round", "way round a d"]:
            self.assertEqual({made.say(row) for each in range(3)} | {desk().say(row)}, {made.say(row)})


if __name__ == "__main__":
    unittest.main()
