import random
import re
import unittest

from cutmeet.errors import NoText
from cutmeet.webs import Web
from cutmeet.webtexts import read_web, web_text
from samples import all_webs, make, odd_things, other_names, state, with_names

TWELVE = list("abcdefghijkl")
FORM = re.compile(r"places(?: [a-z]{1,8}){1,12}\n(?:[a-z]{1,8} > [a-z]{1,8}\n){0,30}")


def told_by(text):
    """The places and ties of which this is the text, or None, by the letter of the form."""
    if FORM.fullmatch(text) is None:
        return None
    first, *rows = text[:-1].split("\n")
    places = first.split(" ")[1:]
    ties = [tuple(row.split(" > ")) for row in rows]
    if places != sorted(set(places)) or not all(place in places for tie in ties for place in tie):
        return None
    return (places, ties)


class Texts(unittest.TestCase):
    def refuse(self, text):
        with self.assertRaises(NoText):
            read_web(text)
        with self.assertRaises(NoText):
            read_web(text=text)

    def check(self, text):
        due = told_by(text)
        if due is None:
            self.refuse(text)
            return
        web = read_web(text)
        self.assertEqual((web.places(), web.ties()), due, text)
        self.assertEqual(web_text(web), text)

    def test_written(self):
        self.assertEqual(web_text(make("a", "")), "places a\n")
        self.assertEqual(web_text(make("c a b", "cb ab ab aa")), "places a b c\nc > b\na > b\na > b\na > a\n")
        self.assertEqual(web_text(web=Web(["zz", "places"], [("places", "zz")])), "places places zz\nplaces > zz\n")

    def test_read(self):
        web = read_web("places a b c\nc > b\na > a\n")
        self.assertIsInstance(web, Web)
        self.assertEqual((web.places(), web.ties()), (["a", "b", "c"], [("c", "b"), ("a", "a")]))
        self.assertEqual(read_web(text="places a\n").places(), ["a"])

    def test_the_greatest_web(self):
        places = [letter * 8 for letter in TWELVE]
        ties = [(places[k % 12], places[k * 7 % 12]) for k in range(30)]
        text = web_text(Web(places[::-1], ties))
        self.assertEqual(len(text), 6 + 12 * 9 + 1 + 30 * 20)
        web = read_web(text)
        self.assertEqual((web.places(), web.ties()), (places, ties))
        self.refuse(text + f"{places[0]} > {places[1]}\n")
        self.refuse("places " + " ".join(TWELVE + ["m"]) + "\n")
        self.assertEqual(read_web("places " + " ".join(TWELVE) + "\n").places(), TWELVE)

    def test_many_webs_are_read_as_they_are_written(self):
        for web in all_webs(6):
            before = state(web)
            text = web_text(web)
            self.assertEqual(text, web_text(web))
            self.assertEqual(told_by(text), (web.places(), web.ties()))
            again = read_web(text)
            self.assertEqual(state(again), state(web))
            self.assertEqual(web_text(again), text)
            self.assertEqual(state(web), before)

    def test_texts_that_are_none(self):
        for text in ["", "\n", " ", "places", "places\n", "places \n", "places a", "places a\n\n", "\nplaces a\n",
                     "places b a\n", "places a a\n", "places a b a\n", "places  a\n", "places a  b\n", "places a \n",
                     " places a\n", "a b\n", "a > b\n", "Places a\n", "place a\n", "placesa\n", "places\ta\n",
                     "places a\r\n", "places a\r", "places A\n", "places a1\n", "places abcdefghi\n",
                     "places a b\na > c\n", "places a b\nc > a\n", "places a b\na > b", "places a b\na >b\n",
                     "places a b\na> b\n", "places a b\na  > b\n", "places a b\na >  b\n", "places a b\n a > b\n",
                     "places a b\na > b \n", "places a b\na > b\n\n", "places a b\n\na > b\n", "places a b\na > b > a\n",
                     "places a b\na < b\n", "places a b\na b\n", "places a b\na\n", "places a b\n > \n",
                     "places a b\na > \n", "places a b\n > b\n", "a > b\nplaces a b\n", "places a\nplaces b\n",
                     "places a b\nplaces a b\n", "places a b\na > b\nplaces a b\n", "places a b\x0ba > b\n",
                     "places a b\u2028a > b\n", "places \u00e4\n", "places a; a > a", "places a b\na > b\n\x00"]:
            self.assertIsNone(told_by(text), text)
            self.refuse(text)

    def test_of_anything(self):
        for thing in odd_things() + [["places a\n"], ("places a\n",), b"places a\n", ["places", "a"], 0, "a" * 100000,
                                     "places a\n" * 20000, "places " * 5000, "\n" * 50000]:
            self.refuse(thing)

    def test_signs_changed(self):
        for text in ["places a\n", "places a b\na > b\n", "places a bb c\nbb > a\nc > c\n"]:
            for at in range(len(text) + 1):
                self.check(text[:at] + text[at + 1:])
                for sign in " >\nabcz;A1~ps":
                    self.check(text[:at] + sign + text[at:])
                    self.check(text[:at] + sign + text[at + 1:])

    def test_rows_changed(self):
        chance = random.Random(8)
        for web in all_webs(9, 60):
            rows = web_text(web).split("\n")[:-1]
            for each in range(12):
                changed = list(rows)
                one, other = chance.randrange(len(rows)), chance.randrange(len(rows))
                deed = chance.randrange(3)
                if deed == 0:
                    changed.insert(one, rows[other])
                elif deed == 1:
                    del changed[one]
                else:
                    changed[one], changed[other] = changed[other], changed[one]
                self.check("".join(row + "\n" for row in changed))

    def test_words_changed(self):
        chance = random.Random(10)
        for web in all_webs(11, 60):
            for each in range(12):
                words = re.split(r"([ \n])", web_text(web))
                words[chance.randrange(len(words))] = chance.choice(["a", "b", "", " ", "\n", "places", ">", "aa"])
                self.check("".join(words))

    def test_other_names(self):
        for web in all_webs(12, 30):
            names = other_names(web)
            rows = ["places " + " ".join(sorted(names.values()))]
            rows += [f"{names[a]} > {names[b]}" for a, b in web.ties()]
            self.assertEqual(web_text(with_names(web, names)), "".join(row + "\n" for row in rows))


if __name__ == "__main__":
    unittest.main()
