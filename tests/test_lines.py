import random
import unittest

from streamwrights.errors import BadFormat, BadLine, BadPlace, BadText, NotSure, StreamError
from streamwrights.formats import Format
from streamwrights.lines import Line, fits_holds, is_fitting, judge_fits, whole
from streamwrights.makers import spelled
from streamwrights.sure import answer, is_sure, sure_holds
from streamwrights.translators import Translator
from tests import backreckoning, linereckoning, reckoning
from tests.linereckoning import ANY, EMPTY_FORM, TEXTS
from tests.samples import AB, ASIDE, EMPTY, FORKED, LATE

SWAP = spelled((("x", "a"), ("y", "b")))
LINE = Line(Format.by_expression("((a b) | a)*"), (ASIDE, SWAP))
# A text stops at the second stage if it has a b.
SHORT = Line(ANY, (spelled((("a", "x"), ("b", "z"))), SWAP))
LINES = linereckoning.small_lines(71, 120)
FITTING = linereckoning.fitting_lines(72, 40)


class MakingTest(unittest.TestCase):

    def refused(self, kind, *parts):
        with self.assertRaises(kind) as caught:
            Line(*parts)
        return caught.exception

    def test_attributes(self):
        one = Line(form=AB, stages=(ASIDE, SWAP))
        self.assertTrue(one.form is AB and one.stages[0] is ASIDE and one.stages[1] is SWAP)
        self.assertEqual((len(one), len(Line(AB, (ASIDE,) * 4))), (2, 4))

    def test_wrong_parts_in_their_order(self):
        for thing in [None, True, 1, "format 1\nends -", (), [], ASIDE, LINE, (AB,), {"form": AB}] + [
                thing for thing in reckoning.any_values() if not isinstance(thing, Format)]:
            self.assertEqual(self.refused(BadLine, thing, None).part, "form")
            self.assertEqual(self.refused(BadLine, thing, (FORKED,)).part, "form")
        for thing in [None, (), [], [ASIDE], (ASIDE,) * 5, (ASIDE, None), (ASIDE, AB), ASIDE, (FORKED, 1), ((ASIDE,),),
                      (ASIDE, str(ASIDE)), {0: ASIDE}, LINE, (FORKED, FORKED, FORKED, FORKED, FORKED), (LINE,)] + [
                thing for thing in reckoning.any_values()]:
            self.assertEqual(self.refused(BadLine, AB, thing).part, "stages")
        other = Translator(1, ((0, ""),), ((0, "a", "", 0), (0, "a", "z", 0)), ((0, ""),))
        for stages, wrong in (((FORKED,), FORKED), ((ASIDE, other, FORKED), other), ((FORKED, other), FORKED)):
            self.assertIs(sure_holds(wrong, self.refused(NotSure, AB, stages).paper), True)
        # Also a stage that is not sure for texts that never come to it.
        self.refused(NotSure, EMPTY_FORM, (EMPTY, FORKED))

    def test_equal(self):
        same = Line(Format.by_expression("((a b) | a)*"), (ASIDE.renumbered((0, 1)), SWAP))
        self.assertTrue(LINE == same)
        for other in [Line(AB, LINE.stages), Line(LINE.form, (ASIDE,)), Line(LINE.form, (SWAP, ASIDE)), str(LINE), ASIDE,
                      (LINE.form, LINE.stages)] + reckoning.any_values():
            self.assertFalse(LINE == other)
            self.assertTrue(LINE != other)


class ReadingTest(unittest.TestCase):

    def place(self, thing):
        with self.assertRaises(BadText) as caught:
            Line.read(thing)
        return caught.exception.place

    def test_text(self):
        self.assertEqual(str(Line(AB, (SWAP, EMPTY))), "format 2\nends 0\nmove 0 a 1\nmove 1 b 0\nstage\ntranslator 1\n"
                         "begin 0 -\nmove 0 x a 0\nmove 0 y b 0\nend 0 -\nstage\ntranslator 0")

    def test_read_gives_the_line_back(self):
        for line in [LINE, SHORT, Line(EMPTY_FORM, (EMPTY,) * 4)] + LINES:
            self.assertEqual(Line.read(str(line)), line)
        self.assertEqual(Line.read(text=str(LINE)), LINE)

    def test_places(self):
        for thing in [None, True, 1, [], LINE, (str(LINE),), b"format 1"] + reckoning.any_values():
            if not isinstance(thing, str):
                self.assertEqual(self.place(thing), -1)
        for text, place in (("", 0), ("stage", 0), ("format 2", 1), ("format 2\nstage\ntranslator 0", 1),
                            ("format 2\nends 0", 2), ("format 2\nends 0\n", 2), ("format 2\nends 0\nstages", 2),
                            ("format 2\nends 0\nmove 0 a 1", 3), ("format 2\nends 0\nstage", 3),
                            ("format 2\nends 0\nstage\n", 3), ("format 2\nends 0\nstage\nstage\ntranslator 0", 3),
                            ("format 2\nends 0\nstage\ntranslator 0\nstage", 5),
                            ("format 2\nends 0\nstage\ntranslator 0\nend 0 -", 4),
                            ("format 2\nends 0\nstage\ntranslator 1\nend 0 -\nbegin 0 -\nstage", 5),
                            ("format 2\nends 0\nstage\ntranslator 0\nstage\ntranslator x\nend", 5),
                            ("format 2\nends 5\nstage", 1), ("format 2\nends 0\nmove 1 a 1\nmove 0 a 1\nstage", 3),
                            ("format 2\nends 0\nstage \ntranslator 0", 2), ("format 2\nends 0\nStage\ntranslator 0", 2),
                            ("format 2\nends 0\ntranslator 0", 2), ("translator 0", 0)):
            self.assertEqual(self.place(text), place, text)

    def test_at_most_four_stages(self):
        four = "format 1\nends -" + "\nstage\ntranslator 0" * 4
        self.assertEqual(len(Line.read(four)), 4)
        for further in ("\nstage\ntranslator 0", "\nstage", "\nstage\nstage", "\nend 0 -", "\n"):
            self.assertEqual(self.place(four + further), 10)
        self.assertEqual(self.place("format 1\nends -\nstage\ntranslator 0\nx" + "\nstage\ntranslator 0" * 4), 4)
        self.assertEqual(self.place("format 1\nends -" + "\nstage\ntranslator 0" * 3 + "\nstage\nstage"), 9)

    def test_then_moves_then_what_is_not_sure(self):
        forked = str(FORKED)
        wrong = "format 2\nends 0\nmove 0 a 0\nmove 0 a 1\nmove 1 b 0\nmove 1 b 1\nstage\n"
        self.assertEqual(self.place(wrong + "translator 0\nx"), 8)
        self.assertEqual(self.place(wrong + forked + "\nstage"), 8 + forked.count("\n") + 1)
        with self.assertRaises(BadFormat) as caught:
            Line.read(wrong + forked)
        self.assertEqual(caught.exception.part, (0, "a", 1))
        with self.assertRaises(NotSure) as caught:
            Line.read("format 1\nends -\nstage\ntranslator 0\nstage\n" + forked)
        self.assertIs(sure_holds(FORKED, caught.exception.paper), True)

    def test_changed_texts(self):
        text = str(Line(AB, (SWAP, EMPTY)))
        for odd in reckoning.mutations(text):
            try:
                self.assertEqual(str(Line.read(odd)), odd)
            except BadText as error:
                rows = odd.split("\n") if isinstance(odd, str) else []
                self.assertTrue(0 <= error.place <= len(rows) if isinstance(odd, str) else error.place == -1)
                if 0 < error.place < len(rows):
                    # What stands ahead of the wrong line can be the beginning of a text.
                    self.assertIn(self.place_or_none("\n".join(rows[:error.place])), (None, error.place))
                    self.assertEqual(self.place("\n".join(rows[:error.place + 1])), error.place)
            except (BadFormat, NotSure) as error:
                self.assertIsInstance(error, StreamError)

    def place_or_none(self, text):
        try:
            Line.read(text)
        except BadText as error:
            return error.place
        except (BadFormat, NotSure):
            return None
        return None


class TracingTest(unittest.TestCase):

    def test_example(self):
        self.assertEqual((LINE.traced("aab"), LINE.comes_to("aab"), LINE.stops_at("aab")), (("aab", "xy", "ab"), "ab", None))
        self.assertEqual((LINE.traced("b"), LINE.comes_to("b"), LINE.stops_at("b")), ((), None, None))
        self.assertEqual((SHORT.traced(text="ab"), SHORT.comes_to(text="ab"), SHORT.stops_at(text="ab")), (("ab", "xz"), None, 1))
        self.assertEqual((SHORT.traced(""), SHORT.comes_to(""), SHORT.stops_at("")), (("", "", ""), "", None))
        one = Line(ANY, (SWAP, ASIDE))
        self.assertEqual((one.traced("a"), one.stops_at("a")), (("a",), 0))

    def test_small_lines(self):
        for line in LINES:
            for text in TEXTS:
                self.assertEqual(line.traced(text), linereckoning.traced(line, text))
                self.assertEqual(line.comes_to(text), linereckoning.comes_to(line, text))
                self.assertEqual(line.stops_at(text), linereckoning.stops_at(line, text))

    def test_forms(self):
        for line in LINES:
            forms = line.forms()
            self.assertEqual((type(forms), len(forms)), (tuple, len(line) + 1))
            self.assertEqual(forms, tuple(form.least() for form in forms))
            self.assertTrue(forms[0].is_same(line.form))
            for index, stage in enumerate(line.stages):
                for text in TEXTS:
                    self.assertEqual(text in forms[index + 1], backreckoning.has_source(stage, text, forms[index]))
            for text in TEXTS:
                for form, word in zip(forms, line.traced(text)):
                    self.assertIn(word, form)
        self.assertEqual(SHORT.forms(), (ANY, Format.by_expression("(x | z)*"), Format.by_expression("a*")))

    def test_without_texts(self):
        line = Line(Format(3, ((0, "a", 1),), (2,)), (ASIDE, SWAP))
        self.assertEqual(line.forms(), (EMPTY_FORM,) * 3)
        self.assertEqual((line.traced(""), line.comes_to("a"), line.stops_at("a")), ((), None, None))
        self.assertEqual(judge_fits(line), ("fits", (EMPTY_FORM,) * 3))
        self.assertEqual(whole(line), Translator(0, (), (), ()))


class FittingTest(unittest.TestCase):

    def test_small_lines(self):
        seen = {"fits": 0, "stops": 0}
        for line in LINES + FITTING:
            paper = judge_fits(line)
            seen[paper[0]] += 1
            self.assertEqual(is_fitting(line), paper[0] == "fits")
            self.assertIs(fits_holds(line, paper), True)
            self.assertIs(fits_holds(line, ("fits", line.forms())), paper[0] == "fits")
            if paper[0] == "fits":
                self.assertEqual(paper, ("fits", line.forms()))
                self.assertEqual([text for text in TEXTS if linereckoning.stops_at(line, text) is not None], [])
            else:
                self.assertTrue(linereckoning.is_stop(line, paper))
        self.assertGreater(min(seen.values()), 30)

    def test_stops_hold_at_just_one_stage(self):
        for line in LINES[:60]:
            for text in TEXTS[:16]:
                for index in (-1, 0, 1, 2, 3, True, False, None, "0"):
                    wanted = linereckoning.is_stop(line, ("stops", index, text))
                    self.assertIs(fits_holds(line, ("stops", index, text)), wanted)

    def test_changed_papers(self):
        for line in (LINE, SHORT, FITTING[0], FITTING[1]):
            paper = judge_fits(line)
            for odd in reckoning.mutations(paper):
                wanted = odd == paper if paper[0] == "fits" else linereckoning.is_stop(line, odd)
                self.assertIs(fits_holds(line, odd), wanted, odd)
        forms = LINE.forms()
        self.assertIs(fits_holds(LINE, ("fits", forms)), True)
        loose = Format(2, ((0, "a", 1), (0, "b", 0), (1, "a", 1), (1, "b", 0)), (0, 1))
        one = Line(ANY, (spelled((("a", "a"), ("b", "b"))),))
        self.assertIs(fits_holds(one, ("fits", (ANY, ANY))), True)
        # The same texts, but no least format.
        for odd in ((loose, ANY), (ANY, loose), (ANY,), (ANY, ANY, ANY), [ANY, ANY], (ANY, str(ANY)), (ANY, None)):
            self.assertIs(fits_holds(one, ("fits", odd)), False)

    def test_any_values(self):
        for thing in reckoning.any_values():
            for odd in (thing, ("fits", thing), ("stops", thing, "a"), ("stops", 0, thing), (thing, LINE.forms()),
                        ("stops", 1, thing)):
                wanted = linereckoning.is_stop(SHORT, odd)
                self.assertIs(fits_holds(LINE, odd), False, odd)
                self.assertIs(fits_holds(SHORT, odd), wanted, odd)
        self.assertIs(fits_holds(line=SHORT, thing=("stops", 1, "a" * 1999 + "b")), True)

    def test_first_stages_that_stop_others_out(self):
        # The first stage stops all texts with a b; what comes to the second one fits.
        line = Line(ANY, (spelled((("a", "x"),)), SWAP))
        self.assertEqual(judge_fits(line)[:2], ("stops", 0))
        self.assertIs(is_fitting(line.within(Format.by_expression("a*"))), True)


class WholeTest(unittest.TestCase):

    def test_small_lines(self):
        for line in LINES + FITTING:
            one = whole(line)
            self.assertEqual(one.useful, tuple(range(len(one))))
            self.assertIs(is_sure(one), True)
            for text in TEXTS:
                word = linereckoning.comes_to(line, text)
                self.assertEqual(answer(one, text), word)
                self.assertEqual(text in one, word is not None)

    def test_line_whose_texts_all_stop(self):
        line = Line(ANY, (spelled((("a", "q"), ("b", "q"))), Translator(1, (), (), ())))
        self.assertEqual(whole(line), Translator(0, (), (), ()))
        self.assertEqual(judge_fits(line)[:2], ("stops", 1))
        self.assertEqual(whole(line=LINE).answers("aab"), ("ab",))


class OthersTest(unittest.TestCase):

    def test_with_stage(self):
        other = LINE.with_stage(index=1, stage=EMPTY)
        self.assertEqual(other, Line(LINE.form, (ASIDE, EMPTY)))
        self.assertEqual(LINE.with_stage(0, LATE), Line(LINE.form, (LATE, SWAP)))
        self.assertEqual(LINE.stages, (ASIDE, SWAP))
        for thing in reckoning.any_values() + [2, -2]:
            if not reckoning.is_number(thing, 2):
                for stage in (SWAP, None, FORKED):
                    with self.assertRaises(BadPlace) as caught:
                        LINE.with_stage(thing, stage)
                    self.assertIs(caught.exception.place, thing)
        for thing in reckoning.any_values() + [LINE, (SWAP,)]:
            if not isinstance(thing, Translator):
                with self.assertRaises(BadLine) as caught:
                    LINE.with_stage(1, thing)
                self.assertEqual(caught.exception.part, "stages")
        with self.assertRaises(NotSure):
            LINE.with_stage(1, FORKED)

    def test_joined(self):
        for line in LINES:
            for index in range(len(line) - 1):
                other = line.joined(index)
                self.assertEqual((other.form, len(other)), (line.form, len(line) - 1))
                self.assertEqual(other.stages[:index] + other.stages[index + 1:],
                                 line.stages[:index] + line.stages[index + 2:])
                for text in TEXTS:
                    self.assertEqual(other.comes_to(text), line.comes_to(text))
        four = Line(AB, (ASIDE, SWAP, SWAP, SWAP))
        for line in (LINE, four, Line(AB, (ASIDE,))):
            for thing in reckoning.any_values() + [len(line), len(line) - 1, -1, True, False]:
                if not reckoning.is_number(thing, len(line) - 1):
                    with self.assertRaises(BadPlace) as caught:
                        line.joined(thing)
                    self.assertIs(caught.exception.place, thing)
        self.assertEqual(four.joined(index=2).stages[:2], (ASIDE, SWAP))

    def test_within(self):
        rng = random.Random(4)
        for line in LINES[:50]:
            form = reckoning.random_format(rng)
            other = line.within(form)
            self.assertEqual((other.form, other.stages), (line.form & form, line.stages))
            for text in TEXTS:
                self.assertEqual(other.comes_to(text), line.comes_to(text) if text in form else None)
        self.assertEqual(LINE.within(form=AB).form, LINE.form & AB)


if __name__ == "__main__":
    unittest.main()
