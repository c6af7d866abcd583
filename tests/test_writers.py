import random
import unittest

from streamwrights.errors import BadPiece, NoAnswer, NotSure, NothingToUndo
from streamwrights.once import certain
from streamwrights.sure import sure_holds
from streamwrights.translators import Translator
from streamwrights.writers import Writer
from tests import reckoning
from tests.samples import ASIDE, EMPTY, FORKED, LATE

ONES = reckoning.random_sures(111, 100) + reckoning.random_sures(112, 40, letters="a", out="xy")


def told(writer):
    return writer.taken, writer.pieces, writer.handed, writer.held, len(writer)


class WriterTest(unittest.TestCase):

    def refused(self, writer, thing):
        before = told(writer)
        with self.assertRaises(BadPiece) as caught:
            writer.take(thing)
        self.assertEqual(told(writer), before)
        return caught.exception.place

    def test_examples(self):
        late = Writer(LATE)
        self.assertEqual(late.take("aa"), "")
        self.assertEqual(late.held, 2)
        self.assertEqual(self.refused(late, "ca"), 1)
        self.assertEqual(late.take("b"), "xx")
        self.assertEqual((late.end(), late.held), ("", 0))
        aside = Writer(ASIDE)
        self.assertEqual(aside.take("aab"), "xy")
        aside.undo()
        self.assertEqual((aside.take("aa"), aside.end()), ("x", "x"))

    def test_attributes(self):
        one = Writer(translator=LATE)
        self.assertIs(one.translator, LATE)
        self.assertEqual(told(one), ("", (), "", 0, 0))
        one.take(piece="a")
        one.take("")
        one.take("ab")
        self.assertEqual(told(one), ("aab", ("a", "", "ab"), "xx", 0, 3))
        one.undo()
        self.assertEqual(told(one), ("a", ("a", ""), "", 1, 2))
        one.undo()
        one.undo()
        self.assertEqual(told(one), ("", (), "", 0, 0))
        with self.assertRaises(NothingToUndo):
            one.undo()

    def test_what_is_certain_at_first_is_handed_on_by_no_take(self):
        one = Writer(Translator(2, ((0, "q"),), ((0, "a", "", 1),), ((1, "xy"),)))
        self.assertEqual((one.handed, one.take(""), one.take("a"), one.handed, one.end()), ("qxy", "", "", "qxy", ""))

    def test_small_translators(self):
        rng = random.Random(7)
        for one in ONES:
            known = reckoning.answers_up_to(one, "ab", 6)
            for _ in range(6):
                writer, seen = Writer(one), []
                for _ in range(8):
                    if seen and rng.random() < 0.3:
                        writer.undo()
                        self.assertEqual(told(writer), seen.pop())
                        continue
                    piece = "".join(rng.choice("ab") for _ in range(rng.randint(0, 2)))
                    before = told(writer)
                    text = writer.taken + piece
                    places = [at for at in range(len(piece)) if certain(one, before[0] + piece[:at + 1]) is None]
                    if places or certain(one, "") is None:
                        self.assertEqual(self.refused(writer, piece), places[0] if places else 0)
                        continue
                    seen.append(before)
                    self.assertEqual(before[2] + writer.take(piece), certain(one, text))
                    self.assertEqual(told(writer), (text, before[1] + (piece,), certain(one, text),
                                                    reckoning.held(one, text), before[4] + 1))
                    self.assert_end(writer, known, text)

    def assert_end(self, writer, known, text):
        before = told(writer)
        if text in known:
            self.assertEqual(writer.handed + writer.end(), known[text])
        elif len(text) <= 6:
            with self.assertRaises(NoAnswer) as caught:
                writer.end()
            self.assertEqual(caught.exception.text, text)
        self.assertEqual(told(writer), before)

    def test_wrong_pieces(self):
        one = Writer(LATE)
        one.take("a")
        for thing in (None, True, 0, [], ("a",), ["a"], "A", "a b", "a-", "-", "a\n", {"a": 1}, LATE, b"a", "b" * 9 + " "):
            self.assertEqual(self.refused(one, thing), -1, thing)
        for piece, place in (("bb", 1), ("d", 0), ("aaad", 3), ("a" * 1000 + "bc", 1001), ("abcb", 2)):
            self.assertEqual(self.refused(one, piece), place)
        for thing in reckoning.any_values():
            if not reckoning.is_word(thing):
                self.assertEqual(self.refused(one, thing), -1)

    def test_without_answers(self):
        for one in (EMPTY, Translator(2, ((0, "x"),), ((0, "a", "x", 0),), ((1, ""),))):
            writer = Writer(one)
            for piece in ("", "a", "zz"):
                self.assertEqual(self.refused(writer, piece), 0)
            for thing in (None, "A", " ", 0, ()):
                self.assertEqual(self.refused(writer, thing), -1)
            self.assertEqual(told(writer), ("", (), "", 0, 0))
            with self.assertRaises(NoAnswer) as caught:
                writer.end()
            self.assertEqual(caught.exception.text, "")
            with self.assertRaises(NothingToUndo):
                writer.undo()

    def test_not_sure(self):
        with self.assertRaises(NotSure) as caught:
            Writer(FORKED)
        self.assertIs(sure_holds(FORKED, caught.exception.paper), True)

    def test_long_texts_with_many_runs(self):
        busy = Translator(3, ((0, ""),), ((0, "a", "x", 0), (0, "a", "x", 1), (1, "a", "x", 0), (1, "a", "x", 1),
                                          (1, "b", "", 2), (2, "b", "y", 2)), ((0, ""), (2, "z")))
        writer = Writer(busy)
        for _ in range(30):
            self.assertEqual(writer.take("a"), "x")
        self.assertEqual(writer.end(), "")
        # The first b writes nothing; a y or the z comes next.
        self.assertEqual((writer.take("b" * 30), writer.held), ("y" * 29, 0))
        self.assertEqual(writer.handed + writer.end(), "x" * 30 + "y" * 29 + "z")
        late = Writer(LATE)
        self.assertEqual((late.take("a" * 59), late.held, late.take("c"), late.end()), ("", 59, "y" * 59, ""))


if __name__ == "__main__":
    unittest.main()
