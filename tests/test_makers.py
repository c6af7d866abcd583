import unittest

from streamwrights.makers import filter_of, spelled
from tests import reckoning


class MakersTest(unittest.TestCase):

    def test_filter_of(self):
        for form in reckoning.random_formats(51, 60):
            one = filter_of(form=form)
            for text in reckoning.all_texts("abc", 4):
                self.assertEqual(one.answers(text), (text,) if reckoning.has_text(form, text) else ())

    def test_spelled(self):
        self.assertEqual(spelled((("a", "xx"), ("b", ""))).answers("aba"), ("xxxx",))
        self.assertEqual((len(spelled((("a", "xx"), ("b", "")))), len(spelled(()))), (1, 1))
        self.assertEqual(spelled(()).answers(""), ("",))
        for pairs in ((), (("a", ""),), (("a", "b"), ("b", "a")), (("a", "aa"), ("b", "c"), ("c", "ab"))):
            one = spelled(pairs=pairs)
            for text in reckoning.all_texts("abc", 4):
                known = all(letter in dict(pairs) for letter in text)
                self.assertEqual(one.answers(text), ("".join(dict(pairs)[letter] for letter in text),) if known else ())


if __name__ == "__main__":
    unittest.main()
