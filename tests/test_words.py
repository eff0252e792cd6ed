import unittest

from leastrecord.words import is_name
from helper import odd_things, stays

WORDS = (
    "let leap get put take free send fetch say clock lot hear add sub mul less same not box lock lane door hand"
).split()


class Names(unittest.TestCase):
    def test_names_of_one_to_eight_small_letters(self):
        for name in ("a", "z", "m", "xy", "abcdefgh", "ijklmnop", "qrstuvwx", "yz", "zzzzzzzz"):
            self.assertIs(is_name(name), True, name)

    def test_none_and_nine_letters_are_no_name(self):
        for text in ("", "abcdefghi", "a" * 9, "a" * 90):
            self.assertIs(is_name(text), False, text)

    def test_every_word_of_the_language_is_no_name(self):
        self.assertEqual(len(WORDS), 23)
        for word in WORDS:
            self.assertIs(is_name(word), False, word)

    def test_what_begins_or_ends_as_a_word_is_a_name(self):
        for word in WORDS:
            for name in (word + "x", "x" + word, word + word[0], word[:-1], word[1:]):
                self.assertIs(is_name(name), name not in WORDS, name)

    def test_words_of_sums_that_are_not_written_are_names(self):
        for name in ("num", "of", "row", "end", "upto", "gifts", "edge", "paper", "shape", "letter", "if", "def"):
            self.assertIs(is_name(name), True, name)

    def test_other_signs_make_no_name(self):
        for number in list(range(32, 127)) + [10]:
            sign = chr(number)
            wanted = "a" <= sign <= "z"
            for text in (sign, "a" + sign, sign + "a", "ab" + sign + "cd"):
                self.assertIs(is_name(text), wanted, text)

    def test_things_of_other_kinds_are_no_names(self):
        for thing in odd_things():
            told = stays(self, is_name, thing)
            self.assertIs(told, isinstance(thing, str) and thing in ("a", "num", "of"), repr(thing)[:80])

    def test_a_name_within_something_is_none(self):
        for thing in (["a"], ("a",), {"a": "a"}, ["a", "b"], ("a", "b")):
            self.assertIs(is_name(thing), False)


if __name__ == "__main__":
    unittest.main()
