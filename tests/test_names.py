import unittest

from cutmeet.names import is_name
from samples import odd_things


class Names(unittest.TestCase):
    def test_names(self):
        for text in ["a", "z", "m", "abcdefgh", "zzzzzzzz", "places", "of"]:
            self.assertIs(is_name(text), True, text)
        for letter in "abcdefghijklmnopqrstuvwxyz":
            self.assertIs(is_name(letter), True, letter)

    def test_texts_that_are_no_names(self):
        for text in ["", "abcdefghi", "a" * 5000, "A", "aB", "Ba", "a1", "1", "0a", " ", "a ", " a", "a b", "\n", "a\n",
                     "\na", "a\tb", "a-b", "a_b", "`", "{", "a{", "@", "\u00e4", "a\u00e4", "\u00df", "\u0430", "\uff41",
                     "\u00aa", "\x00", "a\x00", "\ud800"]:
            self.assertIs(is_name(text), False, repr(text))

    def test_each_sign_but_the_small_letters(self):
        for number in list(range(97)) + list(range(123, 1200)):
            self.assertIs(is_name(chr(number)), False, number)
            self.assertIs(is_name("a" + chr(number)), False, number)

    def test_of_anything(self):
        for thing in odd_things() + [0, 1, ["a"], ("a",), [["a"]], {"a": "a"}, bytes(b"abc")]:
            self.assertIs(is_name(thing), False)

    def test_by_name(self):
        self.assertIs(is_name(thing="ab"), True)
        self.assertIs(is_name(thing=None), False)


if __name__ == "__main__":
    unittest.main()
