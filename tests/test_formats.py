import itertools
import time
import unittest

from streamwrights.errors import BadFormat, BadText
from streamwrights.formats import Format
from tests import reckoning

CHAIN = Format(3, ((0, "a", 1), (0, "b", 2), (1, "a", 0)), (1,))


class MakingTest(unittest.TestCase):

    def refused(self, size, moves, ends):
        with self.assertRaises(BadFormat) as caught:
            Format(size, moves, ends)
        return caught.exception.part

    def test_attributes(self):
        form = Format(size=3, moves=((0, "c", 1), (1, "a", 0)), ends=(0, 2))
        self.assertEqual((form.size, form.moves, form.ends), (3, ((0, "c", 1), (1, "a", 0)), (0, 2)))
        self.assertEqual((form.letters, len(form)), ("ac", 3))
        self.assertEqual(Format(1, (), ()).letters, "")
        moves = tuple((8 - at, "zkbxqcma"[at], 0) for at in range(7, -1, -1))
        self.assertEqual(Format(9, moves, ()).letters, "abckmqxz")
        self.assertEqual(len(Format(999, (), (998,))), 999)

    def test_size(self):
        for size in (0, -1, 1000, True, "1", None, 1.0, (1,), 10 ** 39):
            self.assertEqual(self.refused(size, None, None), "size")

    def test_moves_and_ends_in_their_order(self):
        self.assertEqual(self.refused(2, [], ()), "moves")
        self.assertEqual(self.refused(2, None, None), "moves")
        self.assertEqual(self.refused(2, ((1, "a", 1), (0, "a")), None), (0, "a"))
        for move in ((0, "a", 2), (2, "a", 0), (-1, "a", 0), (True, "a", 0), (0, "a", False), (0, "", 0), (0, "ab", 0),
                     (0, "A", 0), (0, "a", 0, 0), [0, "a", 0], None, "0a0", (0, 0, 0), ("a", 0, 0)):
            part = self.refused(2, ((0, "b", 0), move, None), None)
            self.assertIs(part, move)
        self.assertEqual(self.refused(2, ((1, "a", 0), (0, "a", 0)), None), "order")
        self.assertEqual(self.refused(2, ((0, "a", 0), (0, "a", 0)), None), "order")
        self.assertEqual(self.refused(2, ((0, "a", 0), (0, "a", 1), (1, "a", 0), (1, "a", 1)), None), (0, "a", 1))
        for ends in ([], None, (1, 0), (0, 0), (2,), (-1,), (True,), ("0",), ((0,),), [0]):
            self.assertEqual(self.refused(2, ((0, "a", 1),), ends), "ends")

    def test_changed_arguments_are_refused_with_the_named_part(self):
        right = (2, ((0, "a", 1), (0, "b", 0), (1, "a", 0)), (0, 1))
        for odd in reckoning.mutations(right):
            if isinstance(odd, tuple) and len(odd) == 3:
                wrong = reckoning.format_complaint(*odd)
                if wrong:
                    part = self.refused(*odd)
                    self.assertTrue(part is wrong[0] or part == wrong[0], odd)
                else:
                    self.assertEqual(Format(*odd).moves, odd[1])

    def test_any_values(self):
        values = reckoning.any_values()
        for thing in values:
            for parts in ((thing, (), ()), (2, thing, ()), (2, (), thing), (2, (thing,), ()), (2, (), (thing,))):
                wrong = reckoning.format_complaint(*parts)
                if wrong:
                    self.assertEqual(self.refused(*parts), wrong[0])
                else:
                    Format(*parts)

    def test_equal(self):
        same = Format(3, ((0, "a", 1), (0, "b", 2), (1, "a", 0)), (1,))
        self.assertTrue(CHAIN == same)
        self.assertFalse(CHAIN != same)
        for other in (Format(4, CHAIN.moves, CHAIN.ends), Format(3, CHAIN.moves[1:], CHAIN.ends),
                      Format(3, CHAIN.moves, ()), CHAIN.least(), *reckoning.any_values()):
            self.assertFalse(CHAIN == other)
            self.assertFalse(other == CHAIN)


class ReadingTest(unittest.TestCase):

    def test_text(self):
        self.assertEqual(str(CHAIN), "format 3\nends 1\nmove 0 a 1\nmove 0 b 2\nmove 1 a 0")
        self.assertEqual(str(Format(1, (), ())), "format 1\nends -")
        self.assertEqual(str(Format(12, (), (0, 3, 11))), "format 12\nends 0 3 11")

    def test_read_gives_the_format_back(self):
        big = Format(999, tuple((state, "a", 998 - state) for state in range(999)), tuple(range(999)))
        for form in [CHAIN, big, Format(1, (), ())] + reckoning.random_formats(3, 50):
            self.assertEqual(Format.read(str(form)), form)
        self.assertEqual(Format.read(text="format 1\nends -"), Format(1, (), ()))

    def place(self, thing):
        with self.assertRaises(BadText) as caught:
            Format.read(thing)
        return caught.exception.place

    def test_places(self):
        for thing in (None, 0, True, (), ["format 1", "ends -"], CHAIN, b"format 1\nends -"):
            self.assertEqual(self.place(thing), -1)
        for text in ("", "\n", "format", "format 0\nends -", "format 1000\nends -", "format 01\nends -", "format +1",
                     "format  1\nends -", "format 1 \nends -", " format 1\nends -", "Format 1\nends -", "format -",
                     "format 1x\nends -", "format \u0661\nends -", "format \u00b2\nends -",
                     "format " + "1" * 5000 + "\nends -"):
            self.assertEqual(self.place(text), 0, text)
        for text in ("format 1", "format 1\n", "format 1\nends", "format 1\nends ", "format 1\nends 1",
                     "format 2\nends 1 0", "format 2\nends 0 0", "format 2\nends 0  1", "format 2\nends - 0",
                     "format 2\nends 00", "format 2\nmove 0 a 0\nends 0", "format 2\nends -1"):
            self.assertEqual(self.place(text), 1, text)
        head = "format 3\nends 0 2\nmove 0 b 1\n"
        for line in ("", "move", "move 0 c", "move 0 c 3", "move 3 a 0", "move 0 a 0", "move 0 b 1", "move 0 b 0",
                     "move 0 c 1 ", " move 0 c 1", "move 0 cc 1", "move 0 C 1", "move 0 - 1", "move 00 c 1", "ends 0",
                     "move 0 c 1\n", "end 0 c 1", "move 0  1"):
            text = head + line
            self.assertEqual(self.place(text), 4 if line.endswith("\n") else 3, text)
        self.assertEqual(self.place("format 0\nends 5\nmove"), 0)
        self.assertEqual(self.place(head + "move x\nmove y"), 3)

    def test_second_move_for_a_letter_comes_behind_all_lines(self):
        text = "format 2\nends -\nmove 0 a 0\nmove 0 a 1\nmove 1 b 0\nmove 1 b 1"
        with self.assertRaises(BadFormat) as caught:
            Format.read(text)
        self.assertEqual(caught.exception.part, (0, "a", 1))
        self.assertEqual(self.place(text + "\nmove 1 b 1"), 6)

    def test_changed_texts(self):
        # A text that is read is the text of what was read, so reading and writing go together.
        for odd in reckoning.mutations(str(CHAIN)):
            try:
                self.assertEqual(str(Format.read(odd)), odd)
            except BadText as error:
                lines = odd.split("\n") if isinstance(odd, str) else []
                self.assertTrue(error.place == -1 if not isinstance(odd, str) else 0 <= error.place <= len(lines))
                for end in range(2, error.place):
                    Format.read("\n".join(lines[:end]))
                if 0 <= error.place < len(lines) and error.place > 1:
                    self.assertEqual(self.place("\n".join(lines[:error.place + 1])), error.place)
            except BadFormat as error:
                self.assertIsInstance(error.part, tuple)


class TextsTest(unittest.TestCase):

    def test_led_and_in(self):
        self.assertEqual(CHAIN.led(""), 0)
        self.assertEqual(CHAIN.led(text="b"), 2)
        self.assertIsNone(CHAIN.led("ba"))
        self.assertIsNone(CHAIN.led("c"))
        self.assertTrue("a" in CHAIN)
        self.assertFalse("" in CHAIN)
        for form in reckoning.random_formats(5, 60):
            for text in reckoning.all_texts("abc", 4):
                self.assertEqual(form.led(text), reckoning.led(form, text))
                self.assertIs(text in form, reckoning.has_text(form, text))

    def test_in_of_any_value(self):
        every = Format.by_expression("(a | b)*")
        for thing in reckoning.any_values():
            self.assertIs(thing in every, isinstance(thing, str) and set(thing) <= {"a", "b"})
        self.assertFalse("aB" in every)
        self.assertFalse("a\n" in every)

    def test_texts_first_text_many_and_endless(self):
        for form in reckoning.random_formats(7, 120):
            texts = reckoning.texts_of(form, "ab", 8)
            self.assertEqual(list(form.texts(most=8)), texts)
            self.assertEqual(list(form.texts(most=3)), [text for text in texts if len(text) <= 3])
            self.assertEqual(form.first_text(), texts[0] if texts else None)
            self.assertEqual([form.many(length) for length in range(9)],
                             [sum(len(text) == length for text in texts) for length in range(9)])
            # A longest text has no more letters than there are states, unless there are infinitely many.
            self.assertIs(form.is_endless(), any(len(text) >= form.size for text in texts))
        with self.assertRaises(TypeError):
            CHAIN.texts(3)

    def test_texts_come_one_by_one(self):
        every = Format.by_expression("((a | b) | c)*")
        started = time.perf_counter()
        self.assertEqual(list(itertools.islice(every.texts(most=60), 6)), ["", "a", "b", "c", "aa", "ab"])
        # All texts of one letter fewer lead nowhere in time; the first text has sixty letters.
        late = Format(61, tuple((state, letter, state + 1) for state in range(60) for letter in "ab"), (60,))
        self.assertEqual(list(itertools.islice(late.texts(most=60), 2)), ["a" * 60, "a" * 59 + "b"])
        self.assertEqual(list(late.texts(most=59)), [])
        # Long ways that lead to no end are not followed.
        moves = tuple((0, letter, 1) for letter in "abcdefgh") + ((0, "z", 2),)
        moves += tuple((1, letter, 1) for letter in "abcdefgh") + ((2, "z", 2),)
        blind = Format(3, moves, (2,))
        self.assertEqual(list(itertools.islice(blind.texts(most=60), 3)), ["z", "zz", "zzz"])
        self.assertLess(time.perf_counter() - started, 5)

    def test_sixty_letters(self):
        every = Format.by_expression("(a | b)*")
        self.assertEqual(every.many(60), 2 ** 60)
        self.assertEqual(every.many(length=0), 1)
        self.assertEqual(Format.by_expression("(a b)*").many(59), 0)
        self.assertEqual(every.led("ab" * 30), 0)

    def test_equal_results_when_asked_again(self):
        form = Format(3, ((0, "a", 1), (1, "b", 0), (2, "a", 0)), (0, 2))
        for _ in range(2):
            self.assertEqual(form.least(), Format(2, ((0, "a", 1), (1, "b", 0)), (0,)))
            self.assertEqual(list(form.texts(most=4)), ["", "ab", "abab"])
        self.assertEqual(form, Format(3, ((0, "a", 1), (1, "b", 0), (2, "a", 0)), (0, 2)))


if __name__ == "__main__":
    unittest.main()
