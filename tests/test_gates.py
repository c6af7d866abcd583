import random
import unittest

from streamwrights.errors import OtherNumber, OtherTexts
from streamwrights.formats import Format
from streamwrights.gates import are_alike_lines, fault, gate_holds, judge_gate
from streamwrights.lines import Line, whole
from streamwrights.makers import spelled
from streamwrights.tables import Table, table_of
from streamwrights.translators import Translator
from tests import linereckoning, reckoning
from tests.linereckoning import ANY, EMPTY_FORM, TEXTS
from tests.samples import AB, ASIDE, EMPTY, LATE

ONE = Line(ANY, (spelled((("a", "x"), ("b", "y"))), spelled((("x", "aa"), ("y", "b")))))
# The same answers by other words on the way.
OTHER = Line(ANY, (spelled((("a", "cc"), ("b", "d"))), spelled((("c", "a"), ("d", "b")))))
# Just the empty text does not stop; in the one at the first stage, in the other one at the second.
STOP = Line(ANY, (spelled(()), spelled(())))
LATER = Line(ANY, (spelled((("a", "q"), ("b", "q"))), spelled(())))
LINES = linereckoning.small_lines(81, 60)


def couples():
    rng = random.Random(5)
    for line in LINES:
        for other in linereckoning.like_lines(rng, line):
            yield line, other
        for _ in range(4):
            other = linereckoning.changed_line(rng, line)
            if other is not None and len(whole(other)) <= 24:
                yield line, other


COUPLES = list(couples())


def differ(one, other, text):
    return linereckoning.comes_to(one, text) != linereckoning.comes_to(other, text)


class JudgingTest(unittest.TestCase):

    def test_examples(self):
        self.assertIs(are_alike_lines(ONE, OTHER), True)
        self.assertEqual(judge_gate(ONE, OTHER), ("alike", table_of(whole(ONE))))
        self.assertIs(gate_holds(ONE, OTHER, judge_gate(ONE, OTHER)), True)
        self.assertIs(are_alike_lines(STOP, LATER), True)
        self.assertEqual(judge_gate(STOP, ONE)[0], "unlike")
        self.assertIs(gate_holds(STOP, ONE, ("unlike", "")), False)
        self.assertIs(gate_holds(STOP, ONE, ("unlike", "ab")), True)

    def test_by_names(self):
        self.assertIs(are_alike_lines(one=ONE, other=OTHER), True)
        self.assertIs(gate_holds(one=ONE, other=OTHER, thing=judge_gate(one=ONE, other=OTHER)), True)
        self.assertEqual(fault(one=ONE, other=OTHER, text="a"), 0)

    def test_small_lines(self):
        seen = {"alike": 0, "unlike": 0}
        for one, other in COUPLES:
            paper = judge_gate(one, other)
            seen[paper[0]] += 1
            self.assertEqual(are_alike_lines(one, other), paper[0] == "alike")
            self.assertEqual(are_alike_lines(other, one), paper[0] == "alike")
            self.assertIs(gate_holds(one, other, paper), True)
            apart = [text for text in TEXTS if differ(one, other, text)]
            table = table_of(whole(one))
            self.assertIs(gate_holds(one, other, ("alike", table)), paper[0] == "alike")
            if paper[0] == "alike":
                self.assertEqual(apart, [])
                self.assertEqual(paper, ("alike", table))
                self.assertEqual(table, table_of(whole(other)))
            else:
                self.assertTrue(reckoning.has_text(one.form, paper[1]) and differ(one, other, paper[1]))
            for text in TEXTS[:20] + ["z", "aaaaaaa"]:
                self.assertIs(gate_holds(one, other, ("unlike", text)),
                              reckoning.has_text(one.form, text) and differ(one, other, text))
        self.assertGreater(min(seen.values()), 60)

    def test_alike_lines_have_equal_tables_only(self):
        tables = [table_of(whole(line)) for line in LINES[:20]]
        for line, table in zip(LINES, tables):
            for other in tables:
                self.assertIs(gate_holds(line, line, ("alike", other)), table == other)

    def test_without_texts(self):
        one, other = Line(EMPTY_FORM, (ASIDE,)), Line(Format(2, ((0, "a", 1),), ()), (LATE, EMPTY))
        self.assertEqual(judge_gate(one, other), ("alike", table_of(EMPTY)))
        for text in ("", "a"):
            self.assertIs(gate_holds(one, other, ("unlike", text)), False)

    def test_any_values(self):
        table = table_of(whole(ONE))
        for thing in reckoning.any_values() + [(ONE,), (table,), table_of(LATE)]:
            for odd in (thing, ("alike", thing), ("unlike", thing), (thing, table), (thing, "a"), ("alike", table, thing),
                        ["alike", table]):
                self.assertIs(gate_holds(ONE, OTHER, odd), False, odd)
                text = odd[1] if isinstance(odd, tuple) and len(odd) == 2 and odd[0] == "unlike" else None
                wanted = reckoning.is_word(text) and text != "" and set(text) <= {"a", "b"}
                self.assertIs(gate_holds(ONE, STOP, odd), wanted, odd)
        self.assertIsInstance(table, Table)


class FaultTest(unittest.TestCase):

    def test_examples(self):
        self.assertEqual([fault(ONE, OTHER, text) for text in ("", "a", "ba")], [None, 0, 0])
        # Both stop, at unlike stages: the gate sees no difference, but there is a fault.
        self.assertEqual([fault(STOP, LATER, text) for text in ("", "a", "ba")], [None, 0, 0])
        self.assertEqual([fault(STOP, STOP, text) for text in ("", "a")], [None, None])
        third = Line(ANY, (LATER.stages[0], spelled((("q", ""),))))
        self.assertEqual([fault(LATER, third, text) for text in ("", "a")], [None, 1])
        # What was unlike on the way is a fault, even if both come to the same, or both stop.
        self.assertEqual(fault(Line(ANY, (spelled((("a", "x"),)), EMPTY)), Line(ANY, (spelled((("a", "y"),)), EMPTY)), "a"), 0)
        self.assertEqual(fault(Line(ANY, (spelled((("a", "x"),)), EMPTY)), Line(ANY, (spelled((("a", "x"),)), EMPTY)), "a"),
                         None)

    def test_small_lines(self):
        seen = {}
        for one, other in COUPLES + [(one, other) for one in LINES[:30] for other in LINES[:30]]:
            other = Line(one.form, other.stages)
            if len(one) == len(other):
                for text in TEXTS[:20]:
                    if text in one.form:
                        found = fault(one, other, text)
                        self.assertEqual(found, linereckoning.fault(one, other, text))
                        seen[found] = seen.get(found, 0) + 1
        self.assertTrue(all(seen[key] > 10 for key in (None, 0, 1, 2)), seen)


class ErrorsTest(unittest.TestCase):

    def calls(self, one, other):
        yield lambda: are_alike_lines(one, other)
        yield lambda: judge_gate(one, other)
        yield lambda: gate_holds(one, other, None)
        yield lambda: fault(one, other, "")

    def test_other_texts(self):
        many = 0
        for line in LINES:
            for form in reckoning.random_formats(7, 6) + [AB, EMPTY_FORM]:
                other = Line(form, line.stages)
                text = line.form.parting(form)
                many += text is not None
                for call in self.calls(line, other):
                    if text is not None:
                        with self.assertRaises(OtherTexts) as caught:
                            call()
                        self.assertEqual(caught.exception.text, text)
                    else:
                        call()
        self.assertGreater(many, 200)
        # Also for lines whose texts all stop, and ahead of the number of stages.
        with self.assertRaises(OtherTexts) as caught:
            fault(STOP, Line(Format.by_expression("(a | b)+"), (EMPTY,)), "a")
        self.assertEqual(caught.exception.text, "")

    def test_other_number(self):
        for other in (Line(ANY, ONE.stages[:1]), Line(ANY, ONE.stages + (EMPTY,)), ONE.joined(0)):
            with self.assertRaises(OtherNumber):
                fault(ONE, other, "a")
            self.assertIsInstance(are_alike_lines(ONE, other), bool)
        self.assertIs(are_alike_lines(ONE, ONE.joined(0)), True)

    def test_texts_that_part_only_by_stopping(self):
        one = Line(ANY, (spelled((("a", "x"), ("b", "y"))),))
        other = Line(ANY, (Translator(2, ((0, ""),), ((0, "a", "x", 0), (0, "b", "y", 1)), ((0, ""),)),))
        paper = judge_gate(one, other)
        self.assertEqual(paper[0], "unlike")
        self.assertIs(gate_holds(other, one, paper), True)
        self.assertIs(gate_holds(one, other, ("unlike", "a")), False)


if __name__ == "__main__":
    unittest.main()
