import random
import unittest

from streamwrights.desks import Desk
from streamwrights.errors import BadPiece, NoAnswer, NoName, NotAlike, NothingToUndo, OtherTexts, StreamError
from streamwrights.formats import Format
from streamwrights.house import House
from streamwrights.lines import Line, whole
from streamwrights.makers import spelled
from streamwrights.once import certain
from streamwrights.writers import Writer
from tests import linereckoning, reckoning
from tests.linereckoning import ANY, EMPTY_FORM, TEXTS
from tests.samples import AB, ASIDE, EMPTY, LATE

FORM = Format.by_expression("((a b) | a)*")
HELD = Line(FORM, (ASIDE,))
HELD_TOO = Line(FORM, (ASIDE, spelled((("x", "x"), ("y", "y")))))
BLUR = Line(ANY, (spelled((("a", "c"), ("b", "c"))),))
SWAP = Line(ANY, (spelled((("a", "b"), ("b", "a"))),))
LINES = [line for line in linereckoning.fitting_lines(121, 30)]


def told(desk):
    return desk.taken, desk.pieces, desk.handed


def certain_by_answers(line, text, most=6):
    """What all that texts of at most so many letters come to begins with, if they begin with a text; None for none."""
    known = {}
    for rest in reckoning.all_texts("ab", most - len(text)):
        word = linereckoning.comes_to(line, text + rest)
        if word is not None:
            known[text + rest] = word
    return linereckoning.certain(known, text)


class DeskTest(unittest.TestCase):

    def house(self, *lines):
        house = House()
        for line in lines:
            house.bring("one", line)
        return house

    def refused(self, kind, call, *parts):
        with self.assertRaises(kind) as caught:
            call(*parts)
        return caught.exception

    def test_example(self):
        house = self.house(HELD)
        desk = house.desk(name="one")
        self.assertIsInstance(desk, Desk)
        self.assertEqual((desk.line, told(desk)), (HELD, ("", (), "")))
        self.assertEqual([desk.take(piece) for piece in ("a", "", "ab", "a")], ["", "", "xy", ""])
        self.assertEqual((told(desk), desk.end()), (("aaba", ("a", "", "ab", "a"), "xy"), "x"))
        self.assertIsNone(desk.undo())
        self.assertEqual((told(desk), desk.end(), desk.take(piece="ab")), (("aab", ("a", "", "ab"), "xy"), "", "y"))
        self.assertEqual(len(house.log), 0)

    def test_moving_on_amid_a_text(self):
        house = self.house(HELD)
        desk = house.desk("one")
        desk.take("aa")
        house.bring("one", HELD_TOO)
        self.assertIs(desk.line, HELD)
        before = told(desk)
        self.assertIsNone(desk.move_on())
        self.assertIs(desk.line, HELD_TOO)
        self.assertEqual(told(desk), before)
        self.assertEqual((desk.take("b"), desk.end()), ("y", ""))
        # What was taken ahead of moving on can be taken back behind it.
        desk.undo()
        desk.undo()
        self.assertEqual(told(desk), ("", (), ""))
        self.refused(NothingToUndo, desk.undo)
        # It may be the same line.
        desk.take("a")
        desk.move_on()
        self.assertEqual((desk.line, told(desk)), (HELD_TOO, ("a", ("a",), "")))
        house.undo()
        desk.move_on()
        self.assertIs(desk.line, HELD)

    def test_errors_of_moving_on(self):
        house = self.house(HELD)
        desk = house.desk("one")
        desk.take("ab")
        desk.take("a")

        def assert_left():
            self.assertIs(desk.line, HELD)
            self.assertEqual((told(desk), desk.end()), (("aba", ("ab", "a"), "y"), "x"))

        house.drop("one")
        self.assertEqual(self.refused(NoName, desk.move_on).name, "one")
        assert_left()
        house.bring("one", Line(AB, HELD.stages))
        self.assertEqual(self.refused(OtherTexts, desk.move_on).text, "a")
        assert_left()
        house.drop("one")
        other = Line(FORM, (spelled((("a", "x"), ("b", "y"))),))
        house.bring("one", other)
        error = self.refused(NotAlike, desk.move_on)
        self.assertNotEqual(HELD.comes_to(error.text), other.comes_to(error.text))
        assert_left()
        house.drop("one")
        house.bring("one", HELD_TOO)
        desk.move_on()
        self.assertIs(desk.line, HELD_TOO)
        self.assertEqual((told(desk), desk.end()), (("aba", ("ab", "a"), "y"), "x"))

    def test_desks_go_on_whatever_becomes_of_the_house(self):
        house = self.house(HELD)
        first, second = house.desk("one"), house.desk("one")
        first.take("a")
        house.drop("one")
        house.bring("one", SWAP)
        self.assertEqual((first.take("b"), second.take("aa"), first.handed, second.handed), ("y", "x", "y", "x"))
        third = house.desk("one")
        self.assertEqual((third.take("ab"), third.line), ("ba", SWAP))
        house.undo()
        self.refused(NoName, house.desk, "one")
        self.assertEqual((third.take("b"), third.handed), ("a", "baa"))

    def test_wrong_pieces(self):
        desk = self.house(Line(AB, SWAP.stages)).desk("one")
        desk.take("a")
        for piece, place in (("a", 0), ("bb", 1), ("babz", 3), ("z", 0)):
            self.assertEqual(self.refused(BadPiece, desk.take, piece).place, place)
        for thing in [None, "A", "a b", ("b",), b"b"] + reckoning.any_values():
            if not reckoning.is_word(thing):
                self.assertEqual(self.refused(BadPiece, desk.take, thing).place, -1)
        self.assertEqual(told(desk), ("a", ("a",), "ba"))
        self.assertEqual(self.refused(NoAnswer, desk.end).text, "a")

    def test_form_without_texts(self):
        desk = self.house(Line(EMPTY_FORM, (EMPTY, LATE))).desk("one")
        for piece, place in (("", 0), ("a", 0), ("A", -1)):
            self.assertEqual(self.refused(BadPiece, desk.take, piece).place, place)
        self.assertEqual(self.refused(NoAnswer, desk.end).text, "")
        self.assertEqual(told(desk), ("", (), ""))
        desk.move_on()
        self.refused(NothingToUndo, desk.undo)

    def test_certain_words(self):
        many = 0
        for line in LINES:
            house = self.house(line)
            for text in TEXTS[:31]:
                word = certain(whole(line), text)
                desk = house.desk("one")
                if word is None:
                    self.assertIsNone(certain_by_answers(line, text))
                    self.refused(BadPiece, desk.take, text)
                    continue
                self.assertEqual(desk.handed + desk.take(text), word)
                shown = certain_by_answers(line, text)
                self.assertTrue(shown is None or shown.startswith(word))
                many += shown == word
                answer = linereckoning.comes_to(line, text)
                if answer is None:
                    self.assertEqual(self.refused(NoAnswer, desk.end).text, text)
                else:
                    self.assertEqual(word + desk.end(), answer)
        self.assertGreater(many, 100)

    def test_whoever_listens_cannot_tell(self):
        """A desk that moves on time and again against a writer that never does."""
        rng = random.Random(21)
        moved = 0
        for line in LINES:
            house = self.house(line)
            desk, writer = house.desk("one"), Writer(whole(line))
            family = list(linereckoning.like_lines(rng, line))
            for _ in range(25):
                kind = rng.randrange(5)
                if kind == 0 and len(house.editions("one")) < 6:
                    house.bring("one", rng.choice(family))
                elif kind == 1:
                    desk.move_on()
                    self.assertIs(desk.line, house.in_use("one"))
                    moved += desk.line is not line
                elif kind == 2 and writer.pieces:
                    self.assertEqual(desk.undo(), writer.undo())
                else:
                    piece = "".join(rng.choice("ab") for _ in range(rng.randint(0, 2)))
                    self.assertEqual(self.outcome(desk.take, piece), self.outcome(writer.take, piece))
                self.assertEqual(told(desk), told(writer))
                self.assertEqual(self.outcome(desk.end), self.outcome(writer.end))
        self.assertGreater(moved, 60)

    def outcome(self, call, *parts):
        try:
            return call(*parts)
        except StreamError as error:
            return type(error), vars(error)


if __name__ == "__main__":
    unittest.main()
