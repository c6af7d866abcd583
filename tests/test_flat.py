import functools
import random
import unittest

from streamwrights.cells import cell_of, maps
from streamwrights.flat import flat_tree, height, is_flat, least_height
from streamwrights.maprows import MapRows, maps_joined
from streamwrights.pieces import joined_map
from streamwrights.tables import table_of
from streamwrights.translators import Translator
from tests import reckoning
from tests.samples import ASIDE, LAST, LATE

TABLE = table_of(LAST)
# The answers of texts of a's hang on their number, even or odd: two maps. One more letter brings all to one map.
ODDS = table_of(Translator(2, ((0, ""),), ((0, "a", "x", 1), (1, "a", "y", 0)), ((0, ""), (1, "z"))))
ONLY = table_of(Translator(1, ((0, ""),), ((0, "a", "x", 0), (0, "b", "y", 0)), ((0, ""),)))
TABLES = [TABLE, ODDS, ONLY, table_of(ASIDE), table_of(LATE)] + [
    table for table in [table_of(one) for one in reckoning.random_sures(161, 60)] if table.letters][:25]


class Mapped:
    """What a flat tree asks of a cell."""

    def __init__(self, one):
        self.both_maps = one


def product(ones):
    return functools.reduce(joined_map, ones)


def spans(thing, ones):
    """Whether any value is a flat tree for some maps, from the words of the document."""
    if type(thing) is not tuple:
        return False
    if thing == ():
        return len(ones) == 1
    if len(thing) < 2 or leaves(thing) != len(ones):
        return False
    parts, at = [], 0
    for part in thing:
        many = leaves(part)
        if many is None or not spans(part, ones[at:at + many]):
            return False
        parts.append(product(ones[at:at + many]))
        at += many
    return len(thing) == 2 or (len(set(parts)) == 1 and joined_map(parts[0], parts[0]) == parts[0])


def leaves(thing):
    if type(thing) is not tuple:
        return None
    found = [leaves(part) for part in thing]
    return None if None in found else sum(found) if found else 1


def levels(tree):
    return 1 + max(levels(part) for part in tree) if tree else 0


def least_by_trying(ones):
    """The least height, by trying all ways to cut."""
    @functools.lru_cache(None)
    def least(start, end):
        if end - start == 1:
            return 0
        best = 99
        for cuts in range(1, 1 << (end - start - 1)):
            places = [start] + [start + 1 + at for at in range(end - start - 1) if cuts >> at & 1] + [end]
            parts = list(zip(places, places[1:]))
            if len(parts) > 2:
                joined = {product(ones[first:last]) for first, last in parts}
                one = joined.pop()
                if joined or joined_map(one, one) != one:
                    continue
            best = min(best, 1 + max(least(first, last) for first, last in parts))
        return best
    return least(0, len(ones))


def random_row(rng, table, many, most=2):
    return tuple(cell_of(table, "".join(rng.choice(table.letters) for _ in range(rng.randint(1, most))))
                 for _ in range(many))


class FlatTest(unittest.TestCase):

    def test_examples(self):
        cells = (cell_of(TABLE, "a"),) * 3
        self.assertIs(is_flat(cells, ((), (), ())), True)
        self.assertIs(is_flat(cells, flat_tree(cells)), True)
        self.assertEqual((height(((), (), ())), least_height(cells)), (1, 1))

    def test_one_and_two_cells(self):
        one = cell_of(TABLE, "b")
        self.assertEqual((flat_tree(cells=(one,)), least_height(cells=(one,)), height(tree=())), ((), 0, 0))
        self.assertEqual((flat_tree((one, one)), least_height((one, one)), height(((), ()))), (((), ()), 1, 1))
        self.assertIs(is_flat(cells=(one,), thing=()), True)
        self.assertIs(is_flat((one, one), ()), False)
        self.assertIs(is_flat((one,), ((), ())), False)

    def test_rows_need_one_steady_map(self):
        two = cell_of(ODDS, "a")
        self.assertFalse(two.is_steady)
        self.assertIs(is_flat((two,) * 3, ((), (), ())), False)
        self.assertIs(is_flat((two,) * 3, (((), ()), ())), True)
        self.assertIs(is_flat((two,) * 6, (((), ()), ((), ()), ((), ()))), True)
        self.assertEqual(least_height((two,) * 6), 2)
        a, b = cell_of(TABLE, "a"), cell_of(TABLE, "b")
        self.assertIs(is_flat((a, a, b), ((), (), ())), False)
        self.assertIs(is_flat((a, a, b), (((), ()), ())), True)
        self.assertIs(is_flat((a, a, b), ((), ((), ()))), True)
        self.assertEqual(height((((), ()), ((), (), ()))), 2)

    def test_any_values(self):
        rng = random.Random(1)
        for table in TABLES[:12]:
            for many in (1, 2, 3, 4):
                cells = random_row(rng, table, many)
                ones = [cell.both_maps for cell in cells]
                for thing in reckoning.any_values() + [((),), ((), ()), [(), ()], ((), []), (((), ()), ()), ((), 0, ())]:
                    self.assertIs(is_flat(cells, thing), spans(thing, ones), thing)
                for thing in reckoning.mutations(flat_tree(cells)):
                    self.assertIs(is_flat(cells, thing), spans(thing, ones), thing)

    def test_flat_trees(self):
        rng = random.Random(6)
        for table in TABLES:
            most = 3 * len(maps(table))
            for many in (1, 2, 3, 4, 5, 9, 24):
                cells = random_row(rng, table, many)
                tree = flat_tree(cells)
                self.assertIs(is_flat(cells, tree), True)
                self.assertTrue(spans(tree, [cell.both_maps for cell in cells]))
                self.assertEqual(height(tree), levels(tree))
                self.assertLessEqual(height(tree), most)
                self.assertLessEqual(least_height(cells), height(tree))

    def test_long_rows(self):
        rng = random.Random(8)
        for table in TABLES:
            most = 3 * len(maps(table))
            for many in (100, 700):
                cells = random_row(rng, table, many, 1)
                tree = flat_tree(cells)
                self.assertIs(is_flat(cells, tree), True)
                self.assertLessEqual(height(tree), most)
        self.assertEqual((len(maps(ONLY)), len(maps(ODDS))), (1, 2))
        for many in (9, 17, 64, 65, 129, 3000):
            self.assertLessEqual(height(flat_tree((cell_of(ONLY, "a"),) * many)), 3)
            self.assertLessEqual(height(flat_tree((cell_of(ODDS, "a"),) * many)), 6)

    def test_least_heights(self):
        rng = random.Random(12)
        for table in TABLES:
            for many in (1, 2, 3, 4, 5, 6, 7):
                cells = random_row(rng, table, many)
                self.assertEqual(least_height(cells), least_by_trying([cell.both_maps for cell in cells]))
        # Three odd numbers of letters make an odd number, but not a steady map.
        odd = cell_of(ODDS, "a")
        self.assertEqual([least_height((odd,) * many) for many in range(1, 8)],
                         [least_by_trying([odd.both_maps] * many) for many in range(1, 8)])
        self.assertEqual(least_height((odd,) * 3), 2)
        cells = random_row(rng, TABLE, 24)
        self.assertLessEqual(least_height(cells), 5)
        self.assertEqual(least_height((cell_of(TABLE, "a"),) * 24), 1)
        self.assertEqual(least_height((cell_of(ODDS, "a"),) * 24), 2)

    def test_rows_of_maps_of_all_kinds(self):
        # Groups, maps that lose what they are told, and maps that lead all to None.
        rng = random.Random(14)
        seen = set()
        for _ in range(250):
            size = rng.randint(1, 4)
            kind = rng.randrange(3)
            letters = []
            for _ in range(rng.randint(1, 3)):
                places = [None] + list(range(size)) if kind == 0 else range(size)
                one = [rng.choice(list(places)) for _ in range(size)]
                if kind == 2:
                    one = rng.sample(range(size), size)
                letters.append((tuple(one), (rng.choice([0, None, 1]), rng.choice([0, 1]))))
            found = maps_joined(letters, 80)
            if len(found) > 80:
                continue
            self.assertEqual(len(set(found)), len(found))
            rows = MapRows(found)
            ones = [rng.choice(letters) for _ in range(rng.choice([3, 20, 300]))]
            tree = rows.tree([rows.numbers[one] for one in ones])
            self.assertIs(is_flat([Mapped(one) for one in ones], tree), True)
            if len(ones) < 30:
                self.assertTrue(spans(tree, ones))
            self.assertLessEqual(levels(tree), 3 * len(found))
            seen.add(len(found))
        self.assertGreater(len(seen), 20)


if __name__ == "__main__":
    unittest.main()
