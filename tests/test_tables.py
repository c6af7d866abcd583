import unittest

from streamwrights.errors import NotSure
from streamwrights.formats import Format
from streamwrights.makers import filter_of
from streamwrights.marks import is_beginning, is_rest, judge_alike
from streamwrights.once import certain, is_once, reader_of
from streamwrights.same import are_same
from streamwrights.sure import sure_holds
from streamwrights.tables import table_of
from streamwrights.translators import Translator
from tests import markreckoning, reckoning
from tests.samples import AB, ASIDE, EMPTY, FORKED, LAST, LATE

TABLE = table_of(ASIDE)
ONES = reckoning.random_sures(131, 120) + reckoning.random_sures(132, 40, out="x")
SINGLES = reckoning.random_sures(133, 40, letters="a", out="xy")
NOTHING = Translator(2, ((0, "x"),), ((0, "a", "x", 0), (1, "b", "", 1)), ((1, ""),))


def alike_by(translator):
    """Whether two rests are alike, by papers that are checked by the words of the document."""
    def is_alike(v, w):
        paper = judge_alike(translator, v, w)
        check = markreckoning.is_alike_paper if paper[0] == "alike" else markreckoning.is_unlike_paper
        if not check(translator, v, w, paper):
            raise ValueError(paper)
        return paper[0] == "alike"
    return is_alike


def made(*parts):
    return Translator(parts[0], *[tuple(sorted(rows)) for rows in parts[1:]])


def branched(one, order):
    """A translator that goes on behind an a, and behind a b with other numbers, as a given one."""
    other, many = one.renumbered(order), one.states
    begins = [(0, "ab"[at], word, state + 1 + at * many) for at, side in enumerate((one, other))
              for state, word in side.begins]
    moves = [(state + 1 + at * many, letter, word, target + 1 + at * many) for at, side in enumerate((one, other))
             for state, letter, word, target in side.moves]
    ends = [(state + 1 + at * many, word) for at, side in enumerate((one, other)) for state, word in side.ends]
    return made(1 + 2 * many, ((0, ""),), begins + moves, ends)


class TableTest(unittest.TestCase):

    def test_examples(self):
        self.assertEqual((TABLE.rests, TABLE.beginnings), (("", "b"), ("", "a")))
        self.assertEqual((TABLE.back("b", 0), TABLE.back("b", 1), TABLE.on(0, "a"), TABLE.goes(0, 1)),
                         (1, None, 1, False))
        self.assertEqual([TABLE.word(0, "a", 0), TABLE.word(0, "a", 1), TABLE.word(1, "b", 0), TABLE.word(0, "b", 0)],
                         ["x", "y", "", None])
        self.assertEqual((TABLE.first(0), TABLE.first(1), TABLE.last(1), len(TABLE)), ("", None, "", 5))
        self.assertEqual((table_of(LATE).rests, table_of(LATE).beginnings), (("", "b", "c"), ("", "b")))
        last = table_of(LAST)
        self.assertEqual((last.letters, last.lefts, last.rights), ("abc", 2, 3))

    def test_by_names(self):
        self.assertEqual(table_of(translator=ASIDE), TABLE)
        self.assertEqual((TABLE.on(left=0, letter="a"), TABLE.back(letter="b", right=0)), (1, 1))
        self.assertIs(TABLE.goes(left=1, right=1), True)
        self.assertEqual((TABLE.word(left=0, letter="a", right=1), TABLE.first(right=0), TABLE.last(left=0)),
                         ("y", "", ""))
        self.assertEqual((TABLE.left_mark(text="ba"), TABLE.left_mark(text="ab"), TABLE.right_mark(text="bb")),
                         (None, 0, None))
        self.assertEqual((TABLE.told(text="aab"), TABLE.right_mark(text="ba")), ("xy", 1))

    def test_against_the_answers_of_all_short_texts(self):
        sizes = {}
        for one, letters, most, further in ([(one, "ab", 4, 4) for one in ONES] + [(one, "a", 5, 7) for one in SINGLES]
                                            + [(LATE, "abc", 2, 2), (LAST, "abc", 2, 2), (ASIDE, "ab", 3, 3)]):
            table = table_of(one)
            found = markreckoning.told_by_table(table, letters)
            plain = markreckoning.TextTable(one, letters, most, further, alike_by(one))
            if found != plain.told():
                # Some tables need longer texts.
                plain = markreckoning.TextTable(one, letters, most + 2, further + 3, alike_by(one))
            self.assertEqual(found, plain.told())
            self.assertEqual(len(table), len(plain.told()[6]))
            sizes[table.lefts, table.rights] = sizes.get((table.lefts, table.rights), 0) + 1
            for text in plain.known:
                self.assertEqual(table.told(text), plain.known[text])
            for text in reckoning.all_texts(letters, most + 1):
                self.assertEqual(table.told(text), plain.known.get(text))
                self.assertEqual(table.left_mark(text), plain.lefts.get(text))
                self.assertEqual(table.right_mark(text), plain.mark_of(text))
        self.assertGreater(len(sizes), 12)

    def test_marks_of_texts(self):
        for one in ONES[:60]:
            table = table_of(one)
            for text in reckoning.all_texts("ab", 4):
                self.assertIs(table.left_mark(text) is not None, is_beginning(one, text))
                self.assertIs(table.right_mark(text) is not None, is_rest(one, text))
                for rest in reckoning.all_texts("ab", 2):
                    goes = (is_beginning(one, text) and is_rest(one, rest)
                            and table.goes(table.left_mark(text), table.right_mark(rest)))
                    self.assertIs(goes, text + rest in one)
            self.assertEqual(tuple(table.left_mark(text) for text in table.beginnings), tuple(range(table.lefts)))
            self.assertEqual(tuple(table.right_mark(text) for text in table.rests), tuple(range(table.rights)))

    def test_other_letters(self):
        for letter in "cxz":
            self.assertEqual((TABLE.on(0, letter), TABLE.back(letter, 0), TABLE.word(0, letter, 0)), (None,) * 3)
        self.assertEqual((TABLE.left_mark("ac"), TABLE.right_mark("ca"), TABLE.told("aca")), (None,) * 3)
        # c and d are read, but stand in no text that has an answer.
        odd = Translator(4, ((0, ""), (2, "")), ((0, "a", "x", 0), (0, "c", "", 1), (2, "c", "", 2), (3, "d", "", 0)),
                         ((0, ""),))
        self.assertEqual((table_of(odd).letters, odd.letters), ("a", "acd"))

    def test_without_answers(self):
        for one in (EMPTY, NOTHING):
            table = table_of(one)
            self.assertEqual((table.letters, table.lefts, table.rights, table.beginnings, table.rests, len(table)),
                             ("", 0, 0, (), (), 0))
            self.assertEqual((table.told(""), table.told("a"), table.left_mark(""), table.right_mark("b")), (None,) * 4)
        self.assertEqual(table_of(EMPTY), table_of(NOTHING))

    def test_one_text_alone(self):
        table = table_of(Translator(1, ((0, "xy"),), (), ((0, "z"),)))
        self.assertEqual((table.letters, table.beginnings, table.rests, table.first(0), table.last(0)),
                         ("", ("",), ("",), "xyz", ""))
        self.assertEqual((table.told(""), table.told("a"), table.goes(0, 0), len(table)), ("xyz", None, True, 0))

    def test_equal_exactly_if_the_answers_are_the_same(self):
        ones = [one for one in ONES if one.states < 6][:45] + [ASIDE, LATE, LAST, EMPTY, NOTHING]
        ones += [reader_of(one).as_translator() for one in ones if is_once(one)][:20]
        tables = [table_of(one) for one in ones]
        equal = 0
        for one, table in zip(ones, tables):
            for other, second in zip(ones, tables):
                self.assertIs(table == second, are_same(one, other))
                self.assertIs(table != second, not are_same(one, other))
                equal += table == second
        self.assertGreater(equal, len(ones) + 40)

    def test_equal_in_all_that_is_told(self):
        # Tables that are alike but in where one letter leads ahead, or behind, or in one word at the end.
        def spread(state):
            return made(4, ((0, ""),), ((0, "a", "", 1), (0, "b", "", 2), (0, "c", "", state), (1, "a", "x", 3),
                                        (1, "b", "y", 3), (2, "a", "y", 3), (2, "b", "x", 3)), ((3, ""),))

        def closed(state):
            return made(3, ((0, ""), (1, "")), ((0, "a", "b", 0), (0, "b", "", 2), (1, "a", "a", 1), (1, "c", "", 2),
                                                (state, "d", "", 2)), ((2, ""),))

        def ended(word):
            return made(1, ((0, ""),), ((0, "a", "x", 0),), ((0, word),))

        for one, other in ((spread(1), spread(2)), (closed(0), closed(1)), (ended(""), ended("z"))):
            first, second = [markreckoning.told_by_table(table_of(each), "abcd") for each in (one, other)]
            self.assertEqual([part == more for part, more in zip(first, second)].count(False), 1)
            self.assertIs(table_of(one) == table_of(other), False)
            self.assertIs(table_of(one) != table_of(other), True)

    def test_numbers_of_states_do_not_matter(self):
        for one in ONES[:60] + [LATE, LAST, ASIDE]:
            order = tuple(range(one.states))[::-1]
            both = branched(one, order)
            table = table_of(both)
            self.assertEqual(table, table_of(branched(one, order[::-1])))
            for text in reckoning.all_texts("ab", 4):
                self.assertEqual(table.left_mark("a" + text), table.left_mark("b" + text))

    def test_rests_that_drift_for_some_beginnings_alone(self):
        # Behind one of a and b both runs stay in step, behind the other one they do not.
        for words in (("x", "y"), ("y", "x")):
            moves = [(0, letter, word, 1) for letter, word in zip("ab", words)] + [(0, "a", "", 2), (0, "b", "", 2)]
            one = made(4, ((0, ""),), moves + [(1, "c", "x", 1), (1, "d", "", 3), (2, "c", "x", 2), (2, "e", "", 3)],
                       ((3, ""),))
            self.assertEqual(table_of(one).rests, ("", "d", "e", "ad"))
            self.assertIs(alike_by(one)("d", "e"), False)

    def test_rests_with_unlike_words_but_no_drift_behind_them(self):
        # What is written for d and e is not the same, but only behind a b it grows.
        one = made(6, ((0, ""),), ((0, "a", "x", 1), (0, "a", "y", 2), (1, "b", "", 3), (1, "d", "", 5),
                                   (2, "b", "", 4), (2, "e", "", 5), (3, "b", "z", 3), (3, "f", "", 5),
                                   (4, "b", "z", 4), (4, "g", "", 5)), ((5, ""),))
        self.assertEqual(table_of(one).rests, ("", "d", "f", "g", "ad", "bf", "bg"))
        self.assertEqual([alike_by(one)("d", "e"), alike_by(one)("f", "g")], [True, False])

    def test_words_left_over_stand_ahead_of_the_last_word(self):
        one = Translator(6, ((0, ""),), ((0, "a", "", 1), (0, "a", "y", 2), (1, "b", "", 4), (2, "b", "w", 3),
                                         (4, "b", "z", 5), (5, "b", "z", 5)), ((2, "x"), (3, ""), (5, "")))
        table = table_of(one)
        self.assertEqual((table.rests, table.beginnings), (("", "a"), ("", "a", "ab", "abb")))
        self.assertEqual([table.last(left) for left in range(4)], [None, "yx", "yw", ""])
        self.assertEqual([table.told("a" + "b" * many) for many in range(4)], ["yx", "yw", "z", "zz"])

    def test_tables_hang_on_answers_alone(self):
        for one in [ASIDE, LATE, LAST] + ONES[:20]:
            order = tuple(range(1, one.states)) + (0,)
            for other in (one | one, one.renumbered(order), one.trimmed(), one.turned_round().turned_round(),
                          one.within(Format.by_expression("(a | b | c)*"))):
                self.assertEqual(table_of(other), table_of(one))

    def test_equal_to_no_other_value(self):
        for thing in reckoning.any_values() + [ASIDE, (TABLE,), TABLE.rests]:
            self.assertFalse(TABLE == thing)
            self.assertTrue(TABLE != thing)
        # One word, one first word, one last word, one letter and one mark otherwise.
        for one, other in ((((0, "a", "x", 0),), ((0, "a", "y", 0),)), (((0, "a", "", 0),), ((0, "b", "", 0),))):
            self.assertNotEqual(table_of(Translator(1, ((0, ""),), one, ((0, ""),))),
                                table_of(Translator(1, ((0, ""),), other, ((0, ""),))))
        for head in ("x", "y", ""):
            for tail in ("x", "y", ""):
                one = Translator(1, ((0, head),), ((0, "a", "", 0),), ((0, tail),))
                self.assertIs(table_of(one) == table_of(Translator(1, ((0, "x"),), ((0, "a", "", 0),), ((0, ""),))),
                              head + tail == "x")

    def test_read_once_exactly_if_no_two_rests_drift(self):
        for one in ONES[:80]:
            rests = table_of(one).rests
            kinds = [judge_alike(one, v, w) for v in rests for w in rests]
            if not is_once(one):
                self.assertTrue(any(kind[0] != "alike" for kind in kinds))
            # Each text of the letters has an answer.
            if one.domain() == Format.by_expression("(a | b)*"):
                self.assertIs(is_once(one), len(rests) == 1)

    def test_filters(self):
        table = table_of(filter_of(AB))
        self.assertEqual((table.rests, table.beginnings), (("", "b"), ("", "a")))
        self.assertEqual([table.first(0), table.word(0, "a", 1), table.word(1, "b", 0)], ["", "ab", ""])

    def test_certain_words_of_one_mark(self):
        for one in ONES[:60]:
            table = table_of(one)
            if table.rights != 1 or table.lefts == 0:
                continue
            for text in reckoning.all_texts("ab", 4):
                if is_beginning(one, text):
                    words = [table.word(table.left_mark(text[:at]), letter, 0) for at, letter in enumerate(text)]
                    self.assertEqual(table.first(0) + "".join(words), certain(one, text))

    def test_not_sure(self):
        with self.assertRaises(NotSure) as caught:
            table_of(FORKED)
        self.assertIs(sure_holds(FORKED, caught.exception.paper), True)

    def test_long_texts(self):
        table = table_of(LAST)
        self.assertEqual((table.told("a" * 59 + "c"), table.told("a" * 60)), ("a" * 59, None))
        self.assertEqual((table.left_mark("a" * 60), table.right_mark("a" * 59 + "b")), (0, 1))


if __name__ == "__main__":
    unittest.main()
