import unittest

from streamwrights.errors import NotSure
from streamwrights.sure import answer, is_sure, judge_sure, sure_holds
from streamwrights.translators import Translator
from tests import reckoning
from tests.samples import ASIDE, EMPTY, FORKED, LATE, MANY

DEPTH = 5
TWO = Translator(2, ((0, ""),), ((0, "a", "", 1), (0, "a", "x", 1), (1, "b", "", 1)), ((1, ""),))
EVEN = Translator(3, ((0, ""),), ((0, "a", "", 1), (0, "a", "x", 2)), ((1, "x"), (2, "")))
ONES = reckoning.random_translators(61, 250) + reckoning.random_translators(62, 150, letters="a", out="x")


def useful_pairs(translator):
    """The useful pairs, from all pairs that are met and all that lead on to ends."""
    moves = translator.moves
    met = {(p, q) for p, _ in translator.begins for q, _ in translator.begins}
    leading = {(p, q) for p, _ in translator.ends for q, _ in translator.ends}
    for _ in range(translator.states ** 2):
        met |= {(one[3], other[3]) for one in moves for other in moves
                if one[1] == other[1] and (one[0], other[0]) in met}
        leading |= {(one[0], other[0]) for one in moves for other in moves
                    if one[1] == other[1] and (one[3], other[3]) in leading}
    return met & leading


def is_table(translator, rows):
    """Whether any value is a table of delays, from the words of the document."""
    def is_state(thing):
        return reckoning.is_number(thing, translator.states)

    checks = (is_state, is_state, reckoning.is_word, reckoning.is_word)
    if type(rows) is not tuple or not all(reckoning.fits(row, *checks) for row in rows):
        return False
    if not reckoning.is_sorted(rows):
        return False
    table = {row[:2]: row[2:] for row in rows}
    if len(table) != len(rows) or set(table) != useful_pairs(translator):
        return False
    begun = all(table.get((p, q), reckoning.delay_of(w, z)) == reckoning.delay_of(w, z)
                for p, w in translator.begins for q, z in translator.begins)
    moved = all(table.get((one[3], other[3])) in (None, reckoning.delay_of(left + one[2], right + other[2]))
                for (p, q), (left, right) in table.items() for one in translator.moves for other in translator.moves
                if (one[0], other[0]) == (p, q) and one[1] == other[1])
    ended = all(left + w == right + z for (p, q), (left, right) in table.items() for state, w in translator.ends
                for other, z in translator.ends if (state, other) == (p, q))
    return begun and moved and ended


def is_paper(translator, thing):
    """Whether any value is a paper, for a translator and texts that are short enough to follow all runs."""
    if type(thing) is not tuple or len(thing) not in (2, 4) or type(thing[0]) is not str:
        return False
    if len(thing) == 2:
        return thing[0] == "sure" and is_table(translator, thing[1])
    if thing[0] != "two" or not all(reckoning.is_word(part) for part in thing[1:]):
        return False
    found = reckoning.answers(translator, thing[1]) if len(thing[1]) < 9 else translator.answers(thing[1])
    return thing[2] != thing[3] and thing[2] in found and thing[3] in found


class SureTest(unittest.TestCase):

    def test_examples(self):
        self.assertEqual(judge_sure(ASIDE), ("sure", ((0, 0, "", ""), (1, 1, "", ""))))
        self.assertEqual(judge_sure(TWO)[:2], ("two", "a"))
        self.assertEqual(judge_sure(EVEN), ("sure", ((0, 0, "", ""), (1, 1, "", ""), (1, 2, "", "x"), (2, 1, "x", ""),
                                                     (2, 2, "", ""))))
        self.assertEqual(judge_sure(translator=EMPTY), ("sure", ()))
        self.assertEqual(judge_sure(MANY)[1], "")

    def test_papers_of_small_translators(self):
        kinds = set()
        for one in ONES:
            two = [text for text in reckoning.all_texts("ab", DEPTH) if len(reckoning.answers(one, text)) > 1]
            paper = judge_sure(one)
            kinds.add(paper[0])
            self.assertTrue(is_paper(one, paper))
            self.assertIs(sure_holds(one, paper), True)
            self.assertIs(is_sure(one), paper[0] == "sure")
            if two:
                self.assertEqual((paper[0], len(paper[1])), ("two", len(two[0])))
            elif paper[0] == "two":
                self.assertGreater(len(paper[1]), DEPTH)
        self.assertEqual(kinds, {"sure", "two"})

    def test_a_late_text_with_two_answers_is_a_shortest_one(self):
        # Two tracks that write alike for five letters, and longer ways round that part them earlier to no end.
        moves = tuple((state, "a", "x", state + 1) for state in range(6))
        moves += tuple((state, "a", "x", state + 1) for state in range(7, 12)) + ((12, "a", "y", 6),)
        late = Translator(13, ((0, ""), (7, "")), moves, ((6, ""),))
        self.assertEqual(judge_sure(late)[:2], ("two", "aaaaaa"))
        # The delays of one pair grow; the end of both is reached only after three further letters.
        grow = Translator(4, ((0, ""),), ((0, "a", "", 0), (0, "a", "x", 0), (0, "b", "", 1), (1, "b", "", 2),
                                          (2, "b", "", 3)), ((3, ""),))
        self.assertEqual(judge_sure(grow)[:2], ("two", "abbb"))

    def test_very_many_delays(self):
        # Each of thirty letters doubles the words that may have been written.
        moves = []
        for state in range(30):
            moves += [(state, "a", "x", state + 1), (state, "a", "y", state + 1)]
        ladder = Translator(31, ((0, ""),), tuple(moves), ((30, ""),))
        self.assertEqual(judge_sure(ladder)[:2], ("two", "a" * 30))
        self.assertIs(sure_holds(ladder, judge_sure(ladder)), True)
        self.assertIs(sure_holds(ladder, ("two", "a" * 30, "xy" * 15, "yx" * 15)), True)
        self.assertIs(sure_holds(ladder, ("two", "a" * 30, "xy" * 15, "yx" * 14)), False)

    def test_sure_holds_of_changed_papers_and_any_values(self):
        for one in (ASIDE, EVEN, TWO, MANY, EMPTY, FORKED):
            paper = judge_sure(one)
            further = ("two", "aa", "xx", "x"), ("sure", ()), ("two", "abab", "xx", "xxyy"), ("two", "b", "", "y")
            for thing in [*reckoning.mutations(paper), *reckoning.any_values(), *further]:
                self.assertIs(sure_holds(one, thing), is_paper(one, thing), thing)
        self.assertIs(sure_holds(translator=FORKED, thing=("two", "abb", "x", "xyy")), True)
        self.assertIs(sure_holds(FORKED, ("two", "ab" * 800, "x" * 800, "xy" * 800)), True)
        self.assertIs(sure_holds(FORKED, ("two", "ab" * 800, "x" * 801, "xy" * 800)), False)
        # True is no integer, though it equals 1.
        self.assertIs(sure_holds(ASIDE, ("sure", ((False, 0, "", ""), (1, 1, "", "")))), False)


class AnswerTest(unittest.TestCase):

    def test_answers_of_small_translators(self):
        for one in ONES:
            for text in reckoning.all_texts("ab", 4):
                found = reckoning.answers(one, text)
                if len(found) < 2:
                    self.assertEqual(answer(one, text), found[0] if found else None)
                else:
                    with self.assertRaises(NotSure) as caught:
                        answer(translator=one, text=text)
                    paper = caught.exception.paper
                    self.assertEqual(paper[:2], ("two", text))
                    self.assertTrue(is_paper(one, paper))

    def test_texts_with_very_many_runs(self):
        self.assertEqual(answer(FORKED, "a" * 60), "x" * 60)
        with self.assertRaises(NotSure) as caught:
            answer(FORKED, "ab" * 30)
        paper = caught.exception.paper
        self.assertEqual(paper[:2], ("two", "ab" * 30))
        self.assertIs(sure_holds(FORKED, paper), True)
        # Answers that were unlike on the way count only if both are led on to ends.
        apart = Translator(4, ((0, ""),), ((0, "a", "x", 1), (0, "a", "y", 2), (1, "a", "x", 1), (1, "b", "", 3),
                                           (2, "a", "y", 2), (2, "c", "", 3)), ((3, ""),))
        self.assertEqual(answer(apart, "a" * 59 + "b"), "x" * 59)
        self.assertEqual(answer(apart, "a" * 59 + "c"), "y" * 59)
        self.assertIsNone(answer(apart, "a" * 60))
        self.assertIsNone(answer(LATE, ""))
        self.assertIsNone(answer(EMPTY, ""))


if __name__ == "__main__":
    unittest.main()
