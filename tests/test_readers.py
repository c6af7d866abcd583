import unittest

from streamwrights.errors import BadReader, BadText
from streamwrights.readers import Reader
from streamwrights.translators import Translator
from tests import reckoning
from tests.samples import ASIDE, LATE

PLAIN = Reader(2, "", ((0, "a", "", 1), (1, "a", "x", 1), (1, "b", "y", 0)), ((0, ""), (1, "x")))
NONE = Reader(0, "", (), ())
# States 3 and 4 are of no use, 1 and 2 leave the same open, and words are written late.
LOOSE = Reader(5, "q", ((0, "a", "", 1), (0, "b", "", 2), (1, "a", "x", 1), (2, "a", "x", 2), (2, "c", "", 3),
                        (4, "a", "", 0)), ((1, "xy"), (2, "xy"), (4, "z")))


def made(*parts):
    with_error = None
    try:
        return Reader(*parts)
    except BadReader as error:
        with_error = error.part
    return with_error


class PartsTest(unittest.TestCase):

    def test_attributes(self):
        one = Reader(states=2, head="q", moves=((1, "a", "x", 0),), tails=((1, "y"),))
        self.assertEqual((one.states, one.head, one.moves, one.tails), (2, "q", ((1, "a", "x", 0),), ((1, "y"),)))
        self.assertEqual((len(one), len(NONE), len(Reader(999, "", (), ()))), (2, 0, 999))

    def test_wrong_parts_in_their_order(self):
        move, tail = (0, "a", "x", 0), (0, "")
        for parts, part in (((1000, 1, 1, 1), "states"), ((-1, "", (), ()), "states"), ((True, "", (), ()), "states"),
                            ((0, "x", (), ()), "head"), ((1, "X", (1,), ()), "head"), ((1, None, (), ()), "head"),
                            ((1, "", (move, move), 1), "moves"), ((1, "", [move], ()), "moves"),
                            ((1, "", (move, (0, "a", "y", 0)), ()), "moves"),
                            ((2, "", ((1, "a", "", 0), move), ()), "moves"), ((1, "", ((0, "a", "x", 1),), ()), "moves"),
                            ((1, "", (move,), ((0, ""), (0, "x"))), "tails"), ((1, "", (), [tail]), "tails"),
                            ((1, "", (), ((False, ""),)), "tails"), ((0, "", (), (tail,)), "tails")):
            self.assertEqual(made(*parts), part, parts)

    def test_changed_and_any_values(self):
        whole = (LOOSE.states, LOOSE.head, LOOSE.moves, LOOSE.tails)
        for at in range(4):
            for odd in [*reckoning.mutations(whole[at]), *reckoning.any_values()]:
                parts = whole[:at] + (odd,) + whole[at + 1:]
                complaint = reckoning.reader_complaint(*parts)
                found = made(*parts)
                self.assertEqual(found if isinstance(found, str) else None, complaint, parts)

    def test_equal(self):
        self.assertEqual(PLAIN, Reader.read(str(PLAIN)))
        for other in (Reader(3, "", PLAIN.moves, PLAIN.tails), Reader(2, "x", PLAIN.moves, PLAIN.tails),
                      Reader(2, "", PLAIN.moves[:2], PLAIN.tails), Reader(2, "", PLAIN.moves, PLAIN.tails[:1]),
                      PLAIN.as_translator(), *reckoning.any_values()):
            self.assertFalse(PLAIN == other)
            self.assertTrue(PLAIN != other)


class ReadingTest(unittest.TestCase):

    def test_text(self):
        self.assertEqual(str(PLAIN), "reader 2 -\nmove 0 a - 1\nmove 1 a x 1\nmove 1 b y 0\ntail 0 -\ntail 1 x")
        self.assertEqual(str(NONE), "reader 0 -")
        self.assertEqual(str(Reader(1, "xy", (), ())), "reader 1 xy")
        for one in (PLAIN, NONE, LOOSE, Reader(999, "q", ((998, "a", "", 998),), ((10, "x"), (998, "")))):
            self.assertEqual(Reader.read(text=str(one)), one)

    def place(self, thing):
        with self.assertRaises(BadText) as caught:
            Reader.read(thing)
        return caught.exception.place

    def test_places(self):
        for thing in (None, True, 1, [], ("reader 0 -",), PLAIN, b"reader 0 -"):
            self.assertEqual(self.place(thing), -1)
        for text in ("", "reader", "reader 0", "reader 1000 -", "reader 0 x", "reader 01 -", "reader 1  -", "reader 1 ",
                     "reader 1 - ", "reader 1 X", "reader 1 x-", "reader -1 -", "translator 1", "reader x -\ntail 5 -"):
            self.assertEqual(self.place(text), 0, text)
        head = "reader 12 xy\nmove 2 b x 11\n"
        for line in ("", "begin 3 -", "move 2 b x 11", "move 2 b y 11", "move 2 b x 12", "move 2 a x 0", "move 1 z x 0",
                     "move 12 a x 0", "move 3 - x 0", "move 3 a x", "move 3 a  0", "move 03 a x 0", "tail 12 -",
                     "tail 1", "tail 1 ", "end 1 -", "reader 12 xy", "tail 5 X"):
            self.assertEqual(self.place(head + line), 2, line)
        rest = head + "move 10 a x 0\ntail 3 xy\n"
        for line in ("tail 3 xy", "tail 3 z", "tail 2 z", "move 11 a x 0", "tail 10 -\ntail 10 a", "tail 10 x\n"):
            self.assertEqual(self.place(rest + line), 4 + line.count("\n"), line)
        self.assertEqual(Reader.read(rest + "tail 10 -").tails, ((3, "xy"), (10, "")))
        # The first tail may be one of the state of the last move.
        self.assertEqual(Reader.read(head + "tail 2 -").tails, ((2, ""),))

    def test_changed_texts(self):
        for odd in reckoning.mutations(str(LOOSE)):
            try:
                self.assertEqual(str(Reader.read(odd)), odd)
            except BadText as error:
                lines = odd.split("\n") if isinstance(odd, str) else []
                self.assertTrue(0 <= error.place < len(lines) if isinstance(odd, str) else error.place == -1)
                if error.place > 0:
                    Reader.read("\n".join(lines[:error.place]))
                    self.assertEqual(self.place("\n".join(lines[:error.place + 1])), error.place)

    def test_any_values(self):
        for thing in reckoning.any_values():
            self.assertEqual(self.place(thing), 0 if isinstance(thing, str) else -1)


class AnswersTest(unittest.TestCase):

    def test_led_and_told(self):
        self.assertEqual((PLAIN.led("aa"), PLAIN.told("aab")), ((1, "x"), "xy"))
        self.assertEqual((PLAIN.led(""), PLAIN.told(""), PLAIN.led("b"), PLAIN.told("b")), ((0, ""), "", None, None))
        self.assertEqual((LOOSE.led(text=""), LOOSE.told(text="")), ((0, "q"), None))
        self.assertEqual((LOOSE.led("bc"), LOOSE.told("bc"), LOOSE.told("baa")), ((3, "q"), None, "qxxxy"))
        self.assertEqual((NONE.led(""), NONE.told("")), (None, None))
        self.assertEqual(PLAIN.told("a" * 60), "x" * 60)

    def test_as_translator(self):
        self.assertEqual(PLAIN.as_translator(), Translator(2, ((0, ""),), PLAIN.moves, PLAIN.tails))
        self.assertEqual(LOOSE.as_translator().begins, ((0, "q"),))
        self.assertEqual(NONE.as_translator(), Translator(0, (), (), ()))
        for text in reckoning.all_texts("abc", 4):
            told = LOOSE.told(text)
            self.assertEqual(LOOSE.as_translator().answers(text), () if told is None else (told,))

    def test_least(self):
        self.assertIs(PLAIN.is_least, True)
        self.assertIs(LOOSE.is_least, False)
        self.assertEqual(LOOSE.least(), Reader(2, "qx", ((0, "a", "", 1), (0, "b", "", 1), (1, "a", "x", 1)),
                                               ((1, "y"),)))
        self.assertIs(NONE.is_least, True)
        # No text has an answer.
        for one in (Reader(1, "x", (), ()), Reader(2, "", ((0, "a", "x", 0),), ((1, ""),))):
            self.assertEqual(one.least(), NONE)
            self.assertIs(one.is_least, False)

    def test_least_of_small_readers(self):
        kinds = set()
        for one in reckoning.random_translators(91, 400) + reckoning.random_sures(92, 100):
            # One begin, one move and one end for each place are enough to be a reader.
            moves = {move[:2]: move for move in one.moves}
            tails = {end[0]: end for end in one.ends}
            reader = Reader(one.states, one.begins[0][1] if one.begins and one.states else "",
                            tuple(sorted(moves.values())), tuple(sorted(tails.values())))
            if reader.states > 4:
                continue
            known = reckoning.answers_up_to(reader.as_translator(), "ab", 8)
            parts = reckoning.reader_by_texts(known, "ab", 3, 4)
            self.assertEqual(reader.least(), Reader(*parts), str(reader))
            self.assertIs(reader.is_least, reader == reader.least())
            self.assertIs(reader.least().is_least, True)
            kinds.add((reader.is_least, len(reader.least())))
        self.assertTrue({(True, 1), (True, 2), (True, 3), (False, 0), (False, 1), (False, 2)} <= kinds)

    def test_long_readers(self):
        moves = tuple((state, "a", "x", state + 1) for state in range(300))
        chain = Reader(301, "", moves, ((300, "y"),))
        self.assertIs(chain.is_least, False)
        self.assertEqual(chain.least().head, "x" * 300 + "y")
        self.assertEqual(len(chain.least()), 301)
        ring = Reader(300, "", tuple((state, "a", "x", (state + 1) % 300) for state in range(300)),
                      tuple((state, "") for state in range(300)))
        self.assertEqual(ring.least(), Reader(1, "", ((0, "a", "x", 0),), ((0, ""),)))

    def test_nothing_is_changed(self):
        texts = [str(ASIDE), str(LATE), str(LOOSE)]
        LOOSE.least()
        self.assertEqual([str(ASIDE), str(LATE), str(LOOSE)], texts)


if __name__ == "__main__":
    unittest.main()
