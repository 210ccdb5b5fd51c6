import unittest

from sameface.words import is_among, is_name, is_whole, number_of, words_of
from tests.helpers import ODD_THINGS, deep_thing

MORE_ODD = (*ODD_THINGS, (), ("a",), deep_thing(100000))


class WholeTest(unittest.TestCase):
    def test_whole_numbers(self):
        for thing in (0, 1, -1, 10**40):
            self.assertIs(is_whole(thing), True)

    def test_other_things(self):
        for thing in (*MORE_ODD, "1", ""):
            self.assertIs(is_whole(thing), False)

    def test_among(self):
        for thing, told in ((1, False), (2, True), (3, True), (4, True), (5, False), (-3, False)):
            self.assertIs(is_among(thing, 2, 4), told)

    def test_among_none(self):
        self.assertIs(is_among(0, 0, -1), False)

    def test_among_what_are_no_numbers(self):
        for thing in (*MORE_ODD, "1"):
            self.assertIs(is_among(1, thing, 9), False)
            self.assertIs(is_among(1, 0, thing), False)

    def test_truths_are_among_nothing(self):
        self.assertIs(is_among(True, 0, 4), False)
        self.assertIs(is_among(False, 0, 4), False)

    def test_other_things_are_among_nothing(self):
        for thing in (*MORE_ODD, "1", ""):
            self.assertIs(is_among(thing, 0, 9), False)


class NameTest(unittest.TestCase):
    def test_names(self):
        for thing in ("a", "z", "az", "abcdefgh", "zzzzzzzz"):
            self.assertIs(is_name(thing), True)

    def test_no_names(self):
        others = ("", "abcdefghi", "A", "aB", "a1", "1", "a b", " a", "a ", "a\n", "a_b", "a-", "`", "{", "\u00e4")
        for thing in others:
            self.assertIs(is_name(thing), False, thing)

    def test_no_texts(self):
        for thing in MORE_ODD:
            self.assertIs(is_name(thing), False)


class NumberTest(unittest.TestCase):
    def test_all_numbers(self):
        for number in range(100):
            self.assertEqual(number_of(str(number)), number)
            self.assertIs(type(number_of(str(number))), int)

    def test_no_numbers(self):
        others = ("", "00", "01", "09", "000", "100", "999", "-1", "+1", "1 ", " 1", "1\n", "a", "1a", "1_", "_1")
        for word in (*others, "\u0661", "\u00b2", "1" * 6000):
            self.assertIsNone(number_of(word), word)

    def test_no_texts(self):
        for thing in (*MORE_ODD, 1, 0):
            self.assertIsNone(number_of(thing))


class WordsTest(unittest.TestCase):
    def test_words(self):
        self.assertEqual(words_of("a"), ["a"])
        self.assertEqual(words_of("new : bag"), ["new", ":", "bag"])
        self.assertEqual(words_of("A, 12 ;"), ["A,", "12", ";"])

    def test_blanks_amiss(self):
        for row in ("", " ", "  ", " a", "a ", "a  b", "a b ", " a b", "a b  c"):
            self.assertIsNone(words_of(row), row)

    def test_no_texts(self):
        for thing in (*MORE_ODD, 1):
            self.assertIsNone(words_of(thing))

    def test_told_lists_are_the_askers_own(self):
        told = words_of("a b")
        told.append("c")
        told[0] = "x"
        self.assertEqual(words_of("a b"), ["a", "b"])


if __name__ == "__main__":
    unittest.main()
