import random
import unittest

from streamwrights.errors import BadMarking, NotSure
from streamwrights.markings import Marking, is_enough, judge_marking, least_marking, marking_holds
from streamwrights.marks import judge_alike
from streamwrights.sure import sure_holds
from streamwrights.tables import table_of
from streamwrights.translators import Translator
from tests import markreckoning, reckoning
from tests.samples import ASIDE, EMPTY, FORKED, LAST, LATE

ONES = reckoning.random_sures(141, 100) + reckoning.random_sures(142, 30, out="x")


def complaint(states, moves):
    """The part for which a marking is refused, or None."""
    if not reckoning.is_number(states, 1000) or states == 0:
        return "states"

    def is_state(thing):
        return reckoning.is_number(thing, states)

    if type(moves) is not tuple or not all(reckoning.fits(move, is_state, reckoning.is_letter, is_state)
                                           for move in moves):
        return "moves"
    return None if reckoning.is_sorted(moves) and len({move[:2] for move in moves}) == len(moves) else "moves"


def made(*parts):
    try:
        return Marking(*parts)
    except BadMarking as error:
        return error.part


def told(marking, text):
    state = 0
    for letter in reversed(text):
        goals = [move[2] for move in marking.moves if move[:2] == (state, letter)]
        if not goals:
            return None
        state = goals[0]
    return state


def random_marking(rng, most=4):
    states = rng.randint(1, most)
    return Marking(states, tuple((state, letter, rng.randrange(states)) for state in range(states) for letter in "ab"
                                 if rng.random() < 0.95))


def holds(translator, marking, thing):
    """Whether any value is a paper, from the words of the document; for short texts and few marks."""
    if type(thing) is not tuple or not thing or type(thing[0]) is not str:
        return False
    if thing[0] == "none" and len(thing) == 2 and reckoning.is_word(thing[1]):
        return markreckoning.completers(translator, thing[1]) != set() and told(marking, thing[1]) is None
    if thing[0] == "short" and len(thing) == 4 and reckoning.is_word(thing[1]) and reckoning.is_word(thing[2]):
        _, v, w, paper = thing
        both = [markreckoning.completers(translator, text) for text in (v, w)]
        return (all(both) and told(marking, v) is not None and told(marking, v) == told(marking, w)
                and markreckoning.is_unlike_paper(translator, v, w, paper))
    if thing[0] != "enough" or len(thing) != 2 or type(thing[1]) is not tuple:
        return False
    if not all(reckoning.fits(pair, *[lambda part: type(part) is int] * 2) for pair in thing[1]):
        return False
    table = table_of(translator)
    rests = [text for text in reckoning.all_texts("abc", 5) if table.right_mark(text) is not None]
    pairs = {(told(marking, text), table.right_mark(text)) for text in rests}
    if any(mark is None for mark, _ in pairs) or len({mark for mark, _ in pairs}) < len(pairs):
        return False
    return thing[1] == tuple(sorted(pairs))


class MarkingTest(unittest.TestCase):

    def test_attributes(self):
        one = Marking(states=2, moves=((0, "a", 1),))
        self.assertEqual((one.states, one.moves), (2, ((0, "a", 1),)))
        self.assertEqual((one.told(text=""), one.told("a"), one.told("aa"), one.told("ba"), one.told("ab")),
                         (0, 1, None, None, None))
        self.assertEqual(Marking(999, ((998, "z", 998),)).states, 999)

    def test_wrong_parts_in_their_order(self):
        move = (0, "a", 0)
        for parts, part in (((0, ()), "states"), ((1000, None), "states"), ((True, ()), "states"), (("1", ()), "states"),
                            ((1, [move]), "moves"), ((1, (move, move)), "moves"), ((1, (move, (0, "b", 1))), "moves"),
                            ((2, (move, (0, "a", 1))), "moves"), ((1, ((0, "b", 0), move)), "moves"),
                            ((1, (["0", "a", 0],)), "moves"), ((1, ((0, "a", False),)), "moves")):
            self.assertEqual(made(*parts), part)
        whole = (3, ((0, "a", 1), (0, "b", 2), (2, "a", 0)))
        for at in range(2):
            for odd in [*reckoning.mutations(whole[at]), *reckoning.any_values()]:
                parts = whole[:at] + (odd,) + whole[at + 1:]
                found = made(*parts)
                self.assertEqual(found if isinstance(found, str) else None, complaint(*parts), parts)

    def test_equal(self):
        one = Marking(2, ((0, "a", 1),))
        self.assertEqual(one, Marking(2, ((0, "a", 1),)))
        for other in (Marking(3, ((0, "a", 1),)), Marking(2, ((0, "a", 0),)), Marking(2, ()), *reckoning.any_values()):
            self.assertFalse(one == other)
            self.assertTrue(one != other)

    def test_told(self):
        rng = random.Random(3)
        for _ in range(40):
            one = random_marking(rng)
            for text in reckoning.all_texts("abc", 4):
                self.assertEqual(one.told(text), told(one, text))


class EnoughTest(unittest.TestCase):

    def test_examples(self):
        self.assertEqual(least_marking(ASIDE), Marking(2, ((0, "a", 0), (0, "b", 1), (1, "a", 0))))
        one = Marking(1, ((0, "a", 0), (0, "b", 0)))
        self.assertTrue(marking_holds(ASIDE, one, ("short", "", "b", ("text", ""))))
        self.assertEqual(judge_marking(ASIDE, one)[0], "short")
        self.assertEqual(judge_marking(ASIDE, Marking(1, ((0, "a", 0),))), ("none", "b"))
        self.assertIs(is_enough(ASIDE, least_marking(ASIDE)), True)
        self.assertEqual(judge_marking(ASIDE, least_marking(ASIDE)), ("enough", ((0, 0), (1, 1))))

    def test_without_answers(self):
        for one in (EMPTY, Translator(1, (), ((0, "a", "", 0),), ((0, ""),))):
            self.assertEqual(least_marking(one), Marking(1, ()))
            self.assertEqual(judge_marking(one, Marking(1, ())), ("enough", ()))
            self.assertIs(marking_holds(one, Marking(2, ((0, "a", 1),)), ("enough", ())), True)
            self.assertIs(marking_holds(one, Marking(1, ()), ("enough", ((0, 0),))), False)
            self.assertIs(marking_holds(one, Marking(1, ()), ("none", "")), False)

    def test_least_markings(self):
        for one in ONES + [LATE, LAST]:
            table, marking = table_of(one), least_marking(translator=one)
            moves = {(right, letter, table.back(letter, right)) for letter in "abc" for right in range(table.rights)}
            self.assertEqual(marking, Marking(max(1, table.rights), tuple(sorted(
                move for move in moves if move[2] is not None))))
            self.assertEqual(judge_marking(one, marking), ("enough", tuple((mark, mark) for mark in range(table.rights))))

    def test_small_translators(self):
        rng = random.Random(5)
        kinds = {}
        for one in ONES + [LATE, LAST, ASIDE]:
            for _ in range(5):
                marking = random_marking(rng)
                paper = judge_marking(translator=one, marking=marking)
                kinds[paper[0]] = kinds.get(paper[0], 0) + 1
                self.assertTrue(holds(one, marking, paper), paper)
                self.assertIs(marking_holds(translator=one, marking=marking, thing=paper), True)
                self.assertIs(is_enough(translator=one, marking=marking), paper[0] == "enough")
        self.assertTrue(len(kinds) == 3 and min(kinds.values()) > 20, kinds)

    def test_finer_markings_are_enough(self):
        # Marks split in two, with one more state that no rest is told.
        marking = Marking(4, ((0, "a", 2), (0, "b", 1), (1, "a", 0), (2, "a", 0), (2, "b", 1), (3, "c", 0)))
        self.assertEqual(judge_marking(ASIDE, marking), ("enough", ((0, 0), (1, 1), (2, 0))))
        paper = ("enough", ((0, 0), (1, 1), (2, 0)))
        self.assertIs(marking_holds(ASIDE, marking, paper), True)
        for odd in reckoning.mutations(paper):
            self.assertIs(marking_holds(ASIDE, marking, odd), holds(ASIDE, marking, odd), odd)

    def test_changed_and_any_papers(self):
        late = Marking(2, ((0, "b", 1), (0, "c", 1), (1, "a", 1)))
        shown = judge_marking(LATE, late)
        self.assertEqual((shown[0], shown[3][0]), ("short", "drift"))
        cases = [(LATE, late), (ASIDE, Marking(1, ((0, "a", 0), (0, "b", 0)))), (ASIDE, Marking(1, ((0, "a", 0),))),
                 (ASIDE, least_marking(ASIDE)), (LAST, least_marking(LAST))]
        further = [("enough",), ("none", "bb"), ("none", "aaab"), ("none", "ac"), ("short", "b", "c", ("text", "")),
                   ("short", "", "b", ("text", "")), ("short", "b", "c", judge_alike(LATE, "b", "c")),
                   ("short", "b", "ab", judge_alike(LATE, "b", "ab")), ("short", "bb", "bb", ("text", "")),
                   ("short", "b", "c", shown[3]), ("short", "ab", "ac", shown[3]), ("enough", [])]
        for one, marking in cases:
            for odd in [*reckoning.mutations(judge_marking(one, marking)), *reckoning.any_values(), *further]:
                self.assertIs(marking_holds(one, marking, odd), holds(one, marking, odd), odd)

    def test_papers_of_two_rests_that_are_none_or_have_no_mark(self):
        one = Marking(1, ((0, "a", 0), (0, "b", 0)))
        self.assertIs(marking_holds(ASIDE, one, ("short", "b", "", ("text", ""))), True)
        # bb is no rest; so no beginning completes it, but this is no paper.
        for v, w in (("bb", ""), ("", "bb"), ("bb", "b"), ("b", "bb")):
            for text in ("", "a"):
                self.assertIs(marking_holds(ASIDE, one, ("short", v, w, ("text", text))), False)
        # Both have no told mark.
        none = Marking(1, ())
        self.assertIs(marking_holds(ASIDE, none, ("short", "b", "ab", ("text", ""))), False)
        self.assertIs(marking_holds(ASIDE, one, ("short", "b", "ab", ("text", ""))), True)

    def test_not_sure(self):
        marking = Marking(1, ())
        for call in (lambda: judge_marking(FORKED, marking), lambda: marking_holds(FORKED, marking, 0),
                     lambda: is_enough(FORKED, marking), lambda: least_marking(FORKED)):
            with self.assertRaises(NotSure) as caught:
                call()
            self.assertIs(sure_holds(FORKED, caught.exception.paper), True)


if __name__ == "__main__":
    unittest.main()
