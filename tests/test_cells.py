import random
import unittest

from streamwrights.cells import answer_of, cell_of, maps
from streamwrights.errors import OtherTable
from streamwrights.tables import table_of
from streamwrights.translators import Translator
from tests import reckoning
from tests.samples import ASIDE, EMPTY, LAST, LATE

TABLE = table_of(LAST)
TABLES = [table for table in [table_of(one) for one in reckoning.random_sures(151, 120)]
          if table.lefts * table.rights > 1][:50] + [table_of(one) for one in (ASIDE, LATE, LAST, EMPTY)]


def on(table, left, text):
    for letter in text:
        left = None if left is None else table.on(left, letter)
    return left


def back(table, text, right):
    for letter in text[::-1]:
        right = None if right is None else table.back(letter, right)
    return right


def word(table, left, text, right):
    ahead = back(table, text, right)
    if ahead is None or not table.goes(left, ahead):
        return None
    return "".join(table.word(on(table, left, text[:at]), letter, back(table, text[at + 1:], right))
                   for at, letter in enumerate(text))


def told(table, text):
    """All that the cell of a text tells, letter by letter."""
    lefts, rights = range(table.lefts), range(table.rights)
    return (tuple(on(table, left, text) for left in lefts), tuple(back(table, text, right) for right in rights),
            {(left, right): word(table, left, text, right) for left in lefts for right in rights})


def told_by_cell(cell):
    lefts, rights = range(cell.table.lefts), range(cell.table.rights)
    return (tuple(cell.left_behind(left=left) for left in lefts),
            tuple(cell.right_ahead(right=right) for right in rights),
            {(left, right): cell.written(left=left, right=right) for left in lefts for right in rights})


def grouped(rng, cells):
    """The cells joined in some grouping."""
    if len(cells) == 1:
        return cells[0]
    cut = rng.randint(1, len(cells) - 1)
    return grouped(rng, cells[:cut]) + grouped(rng, cells[cut:])


def all_groupings(cells):
    """The cells joined in every grouping."""
    if len(cells) == 1:
        return list(cells)
    return [one + other for cut in range(1, len(cells)) for one in all_groupings(cells[:cut])
            for other in all_groupings(cells[cut:])]


class CellTest(unittest.TestCase):

    def test_examples(self):
        one = cell_of(TABLE, "aa")
        self.assertEqual(one.both_maps, ((0, None), (None, 1, 2)))
        self.assertEqual((one.written(0, 1), one.written(0, 2), one.written(0, 0)), ("bb", "aa", None))
        self.assertIs(one.is_steady, True)
        self.assertEqual(cell_of(TABLE, "b").both_maps, ((1, None), (1, None, None)))
        self.assertEqual(answer_of(cell_of(TABLE, "aa") + cell_of(TABLE, "b")), "bb")
        self.assertIsNone(answer_of(one))
        self.assertEqual([text for text, _ in maps(TABLE)], ["a", "b", "c", "ba"])
        self.assertIs(one.table, TABLE)

    def test_letter_by_letter(self):
        for table in TABLES:
            for text in reckoning.all_texts("abc", 3):
                cell = cell_of(table=table, text=text)
                self.assertEqual(told_by_cell(cell), told(table, text))
                self.assertEqual(cell.both_maps, told(table, text)[:2])
                self.assertEqual(len(cell), len(text))
                self.assertEqual(answer_of(cell=cell), table.told(text))

    def test_joined_in_every_grouping(self):
        rng = random.Random(9)
        for table in TABLES:
            for _ in range(12):
                text = "".join(rng.choice(table.letters or "a") for _ in range(rng.randint(0, 6)))
                cuts = [0] + sorted(rng.randint(0, len(text)) for _ in range(4)) + [len(text)]
                cells = [cell_of(table, text[start:end]) for start, end in zip(cuts, cuts[1:])]
                whole = cell_of(table, text)
                for _ in range(3):
                    joined = grouped(rng, cells)
                    self.assertEqual(joined, whole)
                    self.assertEqual(told_by_cell(joined), told(table, text))
                    self.assertEqual((len(joined), answer_of(joined)), (len(text), table.told(text)))
                self.assertIs(whole.is_steady, (whole + whole).both_maps == whole.both_maps)

    def test_all_groupings_of_all_short_texts(self):
        for table in TABLES[::5] + TABLES[-4:]:
            for text in reckoning.all_texts(table.letters, 4)[1:]:
                joined = all_groupings([cell_of(table, letter) for letter in text])
                self.assertEqual(len(joined), (1, 1, 2, 5)[len(text) - 1])
                for cell in joined:
                    self.assertEqual(told_by_cell(cell), told(table, text))
                    self.assertEqual((len(cell), answer_of(cell)), (len(text), table.told(text)))

    def test_empty_pieces(self):
        for table in TABLES:
            none = cell_of(table, "")
            lefts, rights = tuple(range(table.lefts)), tuple(range(table.rights))
            self.assertEqual((none.both_maps, none.is_steady, len(none)), ((lefts, rights), True, 0))
            for left in lefts:
                for right in rights:
                    self.assertEqual(none.written(left, right), "" if table.goes(left, right) else None)
            for text in ("", "a", "ab", "z"):
                self.assertEqual(none + cell_of(table, text), cell_of(table, text))
                self.assertEqual(cell_of(table, text) + none, cell_of(table, text))

    def test_letters_that_the_table_does_not_have(self):
        for table in TABLES:
            for text in ("z", "az", "za", "aza"):
                cell = cell_of(table, text)
                self.assertEqual(cell.both_maps, ((None,) * table.lefts, (None,) * table.rights))
                self.assertEqual(set(told_by_cell(cell)[2].values()) - {None}, set())
                self.assertIsNone(answer_of(cell))

    def test_without_marks(self):
        table = table_of(EMPTY)
        one = cell_of(table, "ab")
        self.assertEqual((one.both_maps, one.is_steady, len(one), answer_of(one)), (((), ()), True, 2, None))
        self.assertEqual(len(one + one), 4)
        self.assertEqual(one, cell_of(table, ""))
        self.assertEqual(maps(table), ())

    def test_equal(self):
        self.assertEqual(cell_of(TABLE, "ab"), cell_of(table_of(LAST | LAST), "ab"))
        # Unlike pieces, also of unlike lengths, that do the same.
        self.assertEqual(cell_of(TABLE, "bb"), cell_of(TABLE, "z"))
        self.assertEqual(cell_of(table_of(ASIDE), "abab"), cell_of(table_of(ASIDE), "abab"))
        self.assertNotEqual(cell_of(TABLE, "a"), cell_of(TABLE, "aa"))
        self.assertNotEqual(cell_of(TABLE, "a"), cell_of(table_of(ASIDE), "a"))
        self.assertNotEqual(cell_of(table_of(EMPTY), "a"), cell_of(TABLE, "bb"))
        for table in TABLES:
            cells = [cell_of(table, text) for text in reckoning.all_texts("ab", 3)]
            for one in cells:
                for other in cells:
                    self.assertIs(one == other, told_by_cell(one) == told_by_cell(other))
                    self.assertIs(one != other, told_by_cell(one) != told_by_cell(other))
        # Tables that are not equal, though they do the same with all pieces.
        ones = [table_of(Translator(1, ((0, head),), ((0, "a", "x", 0),), ((0, ""),))) for head in ("", "y")]
        self.assertEqual(told_by_cell(cell_of(ones[0], "a")), told_by_cell(cell_of(ones[1], "a")))
        self.assertNotEqual(cell_of(ones[0], "a"), cell_of(ones[1], "a"))
        for thing in reckoning.any_values() + [TABLE, "a", cell_of(TABLE, "a").both_maps]:
            self.assertFalse(cell_of(TABLE, "a") == thing)

    def test_other_tables(self):
        one, other = cell_of(TABLE, "a"), cell_of(table_of(ASIDE), "a")
        for first, second in ((one, other), (other, one), (one, cell_of(table_of(EMPTY), "a"))):
            with self.assertRaises(OtherTable):
                first + second
        # Equal tables do, wherever they come from.
        again = cell_of(table_of(LAST.renumbered((2, 0, 1))), "b")
        self.assertEqual(answer_of(one + again), "b")

    def test_maps(self):
        for table in TABLES:
            found = maps(table=table)
            firsts = {}
            for text in reckoning.all_texts(table.letters, 6)[1:]:
                firsts.setdefault(told(table, text)[:2], text)
            known = tuple((text, one) for one, text in firsts.items())
            if len(found) > len(known):
                self.assertGreater(len(found[-1][0]), 6)
                found = tuple(row for row in found if len(row[0]) < 7)
            self.assertEqual(found, known)

    def test_long_pieces(self):
        rng = random.Random(2)
        for table in TABLES[-4:]:
            text = "".join(rng.choice("abc") for _ in range(60))
            self.assertEqual(cell_of(table, text), cell_of(table, text[:31]) + cell_of(table, text[31:]))
        text = "a" * 59 + "c"
        self.assertEqual(answer_of(cell_of(TABLE, text)), "a" * 59)


if __name__ == "__main__":
    unittest.main()
