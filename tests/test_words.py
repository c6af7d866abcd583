import itertools
import unittest

from streamwrights.words import common_prefix, delay, is_word
from tests import reckoning


class WordsTest(unittest.TestCase):

    def test_is_word(self):
        for word in ("", "a", "z", "az", "q" * 5000):
            self.assertIs(is_word(word), True)
        for thing in ("A", "a b", "a\n", "-", "`", "{", "a1", "\u00e9", b"a", 0, None, True, ("a",), ["a"], {"a": "b"}):
            self.assertIs(is_word(thing), False)
        for thing in reckoning.any_values():
            self.assertIs(is_word(thing), reckoning.is_word(thing))
        self.assertIs(is_word(thing="ab"), True)

    def test_common_prefix(self):
        self.assertEqual(common_prefix("abc"), "abc")
        self.assertEqual(common_prefix(""), "")
        self.assertEqual(common_prefix("abc", "abd", "ab"), "ab")
        self.assertEqual(common_prefix("abc", "b"), "")
        words = reckoning.all_texts("ab", 3)
        for row in itertools.product(words, repeat=2):
            for further in ("ab", "abba", ""):
                found = common_prefix(*row, further)
                shared = [word for word in words if all(one.startswith(word) for one in row + (further,))]
                self.assertEqual(found, max(shared, key=len))

    def test_delay(self):
        self.assertEqual(delay("abc", "abd"), ("c", "d"))
        self.assertEqual(delay("ab", "ab"), ("", ""))
        self.assertEqual(delay("a", "abc"), ("", "bc"))
        self.assertEqual(delay(one="xy", other="y"), ("xy", "y"))
        for one, other in itertools.product(reckoning.all_texts("ab", 4), repeat=2):
            self.assertEqual(delay(one, other), reckoning.delay_of(one, other))


if __name__ == "__main__":
    unittest.main()
