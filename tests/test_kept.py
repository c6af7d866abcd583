import random
import unittest

from streamwrights.cells import cell_of
from streamwrights.errors import BadPlace, BadWord, NothingToUndo
from streamwrights.kept import Kept
from streamwrights.tables import table_of
from tests import reckoning
from tests.samples import ASIDE, EMPTY, LAST, LATE

TABLE = table_of(LAST)
TABLES = [table for table in [table_of(one) for one in reckoning.random_sures(171, 100)]
          if table.letters][:40] + [table_of(one) for one in (ASIDE, LATE, LAST, EMPTY)]


def reckoned(table, text):
    """What a kept text tells, read anew: answer, head, words of the letters, tail and marks."""
    lefts = [table.left_mark(text[:at]) for at in range(len(text) + 1)]
    rights = [table.right_mark(text[at:]) for at in range(len(text) + 1)]
    answer = table.told(text)
    if answer is None:
        return None, None, None, None, list(zip(lefts, rights))
    words = [table.word(lefts[at], letter, rights[at + 1]) for at, letter in enumerate(text)]
    return answer, table.first(rights[0]), words, table.last(lefts[-1]), list(zip(lefts, rights))


def reckoned_change(table, old, new, start, end):
    """The two numbers that a change returns, from the words of the document."""
    front, back = 0, 0
    for place in range(start + 1):
        if table.right_mark(new[place:]) == table.right_mark(old[place:]):
            front = place
    for many in range(len(old) - end + 1):
        if table.left_mark(new[:len(new) - many]) == table.left_mark(old[:len(old) - many]):
            back = many
    return front, back


class KeptTest(unittest.TestCase):

    def assert_told(self, kept, text):
        answer, head, words, tail, marks = reckoned(kept.table, text)
        self.assertEqual((kept.text_now, len(kept), kept.answer_now, kept.head_now, kept.tail_now),
                         (text, len(text), answer, head, tail))
        self.assertEqual([kept.marks(place) for place in range(len(text) + 1)], marks)
        for start, end in {(0, len(text)), (len(text) // 3, len(text) // 2 + 1), (0, 0), (len(text), len(text))}:
            if end <= len(text):
                self.assertEqual(kept.stretch(start, end), None if words is None else "".join(words[start:end]))
                self.assertEqual(kept.cell(start, end), cell_of(kept.table, text[start:end]))
                self.assertEqual(len(kept.cell(start, end)), end - start)

    def test_examples(self):
        kept = Kept(TABLE, "aab")
        self.assertEqual((kept.marks(0), kept.marks(3), kept.stretch(0, 1)), ((0, 1), (1, 0), "b"))
        self.assertEqual((kept.change(2, 3, "c"), kept.answer_now), ((0, 0), "aa"))
        self.assertEqual((kept.change(0, 0, "a"), kept.answer_now), ((0, 3), "aaa"))
        self.assertIs(kept.table, TABLE)

    def test_by_names(self):
        kept = Kept(table=TABLE, text="aab")
        self.assertEqual((kept.marks(place=2), kept.stretch(start=1, end=3)), ((0, 1), "b"))
        self.assertEqual(kept.cell(start=1, end=3), cell_of(TABLE, "ab"))
        self.assertEqual(kept.change(start=1, end=1, text="a"), (1, 2))

    def test_changes_against_texts_read_anew(self):
        rng = random.Random(4)
        for table in TABLES:
            letters = (table.letters or "ab") * 6 + "z"
            for _ in range(4):
                text = "".join(rng.choice(letters[:-1]) for _ in range(rng.randint(0, 7)))
                kept, past = Kept(table, text), []
                self.assert_told(kept, text)
                for _ in range(12):
                    if past and rng.random() < 0.3:
                        self.assertIsNone(kept.undo())
                        text = past.pop()
                    else:
                        start = rng.randint(0, len(text))
                        end = rng.randint(start, min(len(text), start + 3))
                        piece = "".join(rng.choice(letters) for _ in range(rng.randint(0, 3)))
                        if rng.random() < 0.2:
                            piece = text[start:end]
                        new = text[:start] + piece + text[end:]
                        self.assertEqual(kept.change(start, end, piece), reckoned_change(table, text, new, start, end))
                        past.append(text)
                        text = new
                    self.assert_told(kept, text)
                for text in reversed(past):
                    kept.undo()
                    self.assert_told(kept, text)
                with self.assertRaises(NothingToUndo):
                    kept.undo()
                self.assertEqual(kept.text_now, text if not past else past[0])

    def test_what_stays_as_it_was_writes_what_it_wrote(self):
        rng = random.Random(11)
        many = 0
        for table in TABLES:
            answered = [text for text in reckoning.all_texts(table.letters, 6) if table.told(text) is not None]
            for _ in range(40 if answered else 0):
                old, new = rng.choice(answered), rng.choice(answered)
                start, least = 0, min(len(old), len(new))
                while start < least and old[start] == new[start]:
                    start += 1
                back = 0
                while back < least - start and old[-1 - back] == new[-1 - back]:
                    back += 1
                kept = Kept(table, old)
                front_word, back_words = [kept.stretch(0, at) for at in range(start + 1)], [
                    kept.stretch(len(old) - at, len(old)) for at in range(back + 1)]
                front, last = kept.change(start, len(old) - back, new[start:len(new) - back])
                self.assertTrue(front <= start and last <= back)
                if kept.marks(front)[1] == table.right_mark(old[front:]):
                    self.assertEqual(kept.stretch(0, front), front_word[front])
                if kept.marks(len(kept) - last)[0] == table.left_mark(old[:len(old) - last]):
                    self.assertEqual(kept.stretch(len(kept) - last, len(kept)), back_words[last])
                many += front + last > 0
        self.assertGreater(many, 100)

    def test_changes_that_change_nothing(self):
        kept = Kept(TABLE, "aab")
        self.assertEqual([kept.change(*places) for places in ((1, 2, "a"), (0, 3, "aab"), (3, 3, ""), (0, 0, ""))],
                         [(1, 1), (0, 0), (3, 0), (0, 3)])
        for _ in range(4):
            self.assertEqual(kept.text_now, "aab")
            kept.undo()
        with self.assertRaises(NothingToUndo):
            kept.undo()

    def test_texts_without_an_answer(self):
        kept = Kept(TABLE, "aa")
        self.assertEqual((kept.answer_now, kept.head_now, kept.tail_now, kept.stretch(0, 1)), (None,) * 4)
        self.assertEqual([kept.marks(place) for place in range(3)], [(0, None), (0, None), (0, 0)])
        # None and None are as they were.
        self.assertEqual(kept.change(1, 2, "aa"), (1, 0))
        self.assertEqual(kept.change(3, 3, "z"), (2, 0))
        self.assertEqual(kept.change(2, 2, "b"), (2, 0))
        self.assertEqual(kept.change(3, 5, ""), (0, 0))
        self.assertEqual((kept.answer_now, kept.head_now, kept.tail_now), ("bb", "", ""))

    def test_without_marks(self):
        kept = Kept(table_of(EMPTY), "ab")
        self.assertEqual((kept.marks(0), kept.marks(2), kept.answer_now, kept.stretch(0, 2), kept.head_now),
                         ((None, None), (None, None), None, None, None))
        self.assertEqual(kept.change(1, 1, "c"), (1, 1))
        self.assertEqual(kept.cell(0, 3).both_maps, ((), ()))
        with self.assertRaises(BadPlace):
            kept.marks(4)

    def test_long_texts_with_many_changes(self):
        rng = random.Random(13)
        kept = Kept(TABLE, "a" * 199 + "b")
        for at in range(60):
            place = rng.randint(0, 198)
            before = kept.text_now
            self.assertEqual(kept.change(place, place + 1, "a"), (place, 199 - place))
            self.assertEqual(kept.change(199, 200, "bc"[at % 2]), reckoned_change(TABLE, before, kept.text_now, 199, 200))
            self.assertEqual(kept.answer_now, "ba"[at % 2] * 199)
        self.assertEqual(kept.stretch(50, 150), "a" * 100)

    def refused(self, kind, call, *parts):
        with self.assertRaises(kind) as caught:
            call(*parts)
        return caught.exception

    def test_wrong_places(self):
        kept = Kept(TABLE, "aab")
        odd = [None, True, False, -1, 4, 10 ** 30, "0", (0,), [], {}, TABLE, "", ("a",)]
        for thing in odd:
            self.assertEqual(self.refused(BadPlace, kept.marks, thing).place, thing)
            for call, more in ((kept.stretch, ()), (kept.cell, ()), (kept.change, ("a",)), (kept.change, (None,))):
                self.assertIs(self.refused(BadPlace, call, thing, None, *more).place, thing)
                self.assertIs(self.refused(BadPlace, call, 1, thing, *more).place, thing)
                self.assertEqual(self.refused(BadPlace, call, 2, 1, *more).place, 1)
                self.assertEqual(self.refused(BadPlace, call, 4, 3, *more).place, 4)
        for thing in reckoning.any_values():
            if not reckoning.is_number(thing, 4):
                self.assertIs(self.refused(BadPlace, kept.marks, thing).place, thing)
                self.assertIs(self.refused(BadPlace, kept.change, 0, thing, "").place, thing)
        self.assert_told(kept, "aab")
        self.refused(NothingToUndo, kept.undo)

    def test_wrong_words(self):
        kept = Kept(TABLE, "aab")
        for thing in [None, True, 1, "A", "a b", "a\n", "-", "a1", ("a",), ["a"], {}, TABLE] + reckoning.any_values():
            if not reckoning.is_word(thing):
                self.assertIs(self.refused(BadWord, kept.change, 0, 3, thing).text, thing)
        self.assert_told(kept, "aab")
        self.refused(NothingToUndo, kept.undo)


if __name__ == "__main__":
    unittest.main()
