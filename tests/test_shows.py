import re
import unittest

from cutmeet.cuts import all_cuts
from cutmeet.errors import NoText
from cutmeet.papers import paper
from cutmeet.shows import read_row, show_cut, show_cuts, show_ties, show_web
from cutmeet.webs import Web
from cutmeet.webtexts import web_text
from samples import Stubborn, all_webs, endless, make, odd_things, state

LINE = make("a b c", "ab bc aa")
ROW = "places a b c; a > b; b > c; a > a"
FORM = re.compile(r"places(?: [a-z]{1,8}){1,12}(?:; [a-z]{1,8} > [a-z]{1,8}){0,30}")


def told_by(text):
    """The places and ties of which this is the row, or None, by the letter of the form."""
    if FORM.fullmatch(text) is None:
        return None
    first, *rows = text.split("; ")
    places = first.split(" ")[1:]
    ties = [tuple(row.split(" > ")) for row in rows]
    if places != sorted(set(places)) or not all(place in places for tie in ties for place in tie):
        return None
    return (places, ties)


class Shows(unittest.TestCase):
    def test_ties(self):
        self.assertEqual(show_ties([]), "-")
        self.assertEqual(show_ties([0]), "0")
        self.assertEqual(show_ties(ties=[0, 7, 12, 29]), "0 7 12 29")
        self.assertEqual(show_ties(list(range(30))), " ".join(str(k) for k in range(30)))
        self.assertEqual(show_ties(None), "none")

    def test_cut(self):
        self.assertEqual(show_cut(("a",)), "a")
        self.assertEqual(show_cut(cut=("a", "longname", "z")), "a+longname+z")
        self.assertEqual(show_cut(None), "none")

    def test_cuts(self):
        self.assertEqual(show_cuts([]), "-")
        self.assertEqual(show_cuts([("a",)]), "a")
        self.assertEqual(show_cuts(cuts=[("a", "b"), ("b",), ("b", "c", "d")]), "a+b b b+c+d")
        self.assertEqual(show_cuts([(("a", "b"), 1), (("b",), 12)]), "a+b*1 b*12")
        self.assertEqual(show_cuts([(("b",), 1)]), "b*1")
        self.assertEqual(show_cuts([(("b", "c"), 999999999999)]), "b+c*999999999999")
        self.assertEqual(show_cuts([(("b", "c"), 10 ** 40)]), "b+c*1" + "0" * 40)
        # A cut of two places is not taken for one with times.
        self.assertEqual(show_cuts([("a", "b")]), "a+b")

    def test_web(self):
        self.assertEqual(show_web(LINE), ROW)
        self.assertEqual(show_web(web=make("a", "")), "places a")
        self.assertEqual(show_web(make("b a", "")), "places a b")
        self.assertEqual(show_web(make("a", "aa")), "places a; a > a")

    def test_web_by_its_text(self):
        for web in all_webs(200, 60):
            text = web_text(web)
            self.assertEqual(text[-1], "\n")
            self.assertEqual(show_web(web), text[:-1].replace("\n", "; "))

    def test_what_is_told_is_shown_whatever_its_size(self):
        web = make("a b c d e f g h i j", "")
        words = show_cuts(all_cuts(web)).split(" ")
        self.assertEqual(len(words), 1022)
        self.assertEqual([tuple(word.split("+")) for word in words], all_cuts(web))
        ties, cuts = paper(LINE)
        self.assertEqual((show_ties(ties), show_cuts(cuts)), ("0 1", "b+c c"))


class ReadRow(unittest.TestCase):
    def test_some(self):
        self.assertEqual(state(read_row(ROW)), state(LINE))
        self.assertEqual(state(read_row(text="places a")), state(make("a", "")))
        self.assertEqual(state(read_row("places b longname; longname > b")),
                         state(Web(["longname", "b"], [("longname", "b")])))

    def test_what_is_written_is_read(self):
        for web in all_webs(201, 60):
            self.assertEqual(state(read_row(show_web(web))), state(web))

    def test_as_large_as_can_be(self):
        places = ["abcdefg" + letter for letter in "abcdefghijkl"]
        web = Web(places, [(places[k % 12], places[k // 3]) for k in range(30)])
        self.assertEqual(state(read_row(show_web(web))), state(web))
        text = show_web(web)
        for wrong in [text + "; abcdefga > abcdefga", text.replace("places", "places aaa"), text + ";", text + "; "]:
            with self.assertRaises(NoText):
                read_row(wrong)

    WRONG = [
        "", " ", "-", "none", ";", "; ", "places", "places ", "places;", "place a", "Places a", "places  a", " places a",
        "places a ", "places a;", "places a; ", "places a;a > a", "places a ; a > a", "places a;  a > a", "places a; a  > a",
        "places a; a > a ", "places a; a > a;", "places a; a > a; ", "places a; ; a > a", "places a; a>a", "places a; a >a",
        "places a; a < a", "places a; a > b", "places a; b > a", "places a; a > a > a", "places a; a >", "places a; > a",
        "places a; a", "places a; a a", "places b a", "places a a", "places A", "places a1", "places a,b", "places toolongname",
        "places a\n", "places a\na > a", "places a\na > a\n", "places a; a > a\n", "places a\n; a > a", "\nplaces a",
        "places a;\na > a", "places a; a > a; b > b", "a > a; places a", "places a; places a", "places a; places > a",
        "places a b; a > b;; b > a", "places a b; a > b, b > a", "places a\tb", "places a\u00a0b", "places \u00e4", "places a\r",
        "places a; a > \u00e4", "places a\x00", "places a b c d e f g h i j k l m", "places a" + "; a > a" * 31,
        "places a" + "; a > a" * 2000, "a", "web a places a", "places a\x0b", "places a\x0c; a > a", "places a\x1c",
        "places a\u2028", "places a\x85", "places a\x85a > a", "places a\u2028a > a",
    ]

    def test_listed(self):
        for text in self.WRONG:
            with self.assertRaises(NoText, msg=text):
                read_row(text)
            with self.assertRaises(NoText):
                read_row(text=text)

    def test_no_text_of_anything(self):
        for thing in odd_things() + [b"places a", ["places a"], ("places a",), LINE, None, Stubborn(), endless()]:
            with self.assertRaises(NoText):
                read_row(thing)

    def test_each_other_sign_or_order(self):
        seen = {True: 0, False: 0}
        for at in range(len(ROW) + 1):
            for sign in ["", " ", "a", "b", ">", ";", "\n", "A", "1", "+", "; "]:
                for text in [ROW[:at] + sign + ROW[at + 1:], ROW[:at] + sign + ROW[at:]]:
                    due = told_by(text)
                    seen[due is not None] += 1
                    self.check_read(text, due)
        # Places and ties changed for others that are there make other webs.
        self.assertGreater(min(seen.values()), 10)

    def check_read(self, text, due):
        if due is None:
            with self.assertRaises(NoText):
                read_row(text)
        else:
            web = read_row(text)
            self.assertEqual((web.places(), web.ties()), due)


class Kept(unittest.TestCase):
    def test_nothing_changes(self):
        ties, cuts, timed = [0, 2], [("a",), ("a", "b")], [(("a",), 3)]
        for each in range(2):
            self.assertEqual((show_ties(ties), show_cuts(cuts), show_cuts(timed)), ("0 2", "a a+b", "a*3"))
        self.assertEqual((ties, cuts, timed), ([0, 2], [("a",), ("a", "b")], [(("a",), 3)]))
        before = state(LINE)
        self.assertEqual(show_web(LINE), show_web(LINE))
        self.assertEqual(state(LINE), before)


if __name__ == "__main__":
    unittest.main()
