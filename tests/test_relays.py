import random
import unittest

from streamwrights.errors import BadPiece, NoAnswer, NothingToUndo, Stops, Twins
from streamwrights.formats import Format
from streamwrights.lines import Line, is_fitting, judge_fits, whole
from streamwrights.makers import spelled
from streamwrights.relays import Relay, back_line
from streamwrights.sure import answer
from streamwrights.translators import Translator
from streamwrights.writers import Writer
from tests import linereckoning, reckoning
from tests.linereckoning import ANY, EMPTY_FORM, TEXTS
from tests.samples import AB, ASIDE, EMPTY, LATE

LINES = linereckoning.fitting_lines(91, 60)
STOPPING = [line for line in linereckoning.small_lines(92, 60) if not is_fitting(line)]
SWAP = spelled((("x", "p"), ("y", "q")))
# One letter is held back by the first stage, two letters are written at once by the second one.
LINE = Line(Format.by_expression("((a b) | a)*"), (ASIDE, spelled((("x", "aa"), ("y", "b")))))
# Both stages write a head that is certain ahead of all letters.
HEADS = Line(ANY, (Translator(1, ((0, "ab"),), ((0, "a", "a", 0), (0, "b", "b", 0)), ((0, ""),)),
                   Translator(1, ((0, "z"),), ((0, "a", "x", 0), (0, "b", "y", 0)), ((0, "w"),))))


def certain_by_texts(stage, form, text, letters):
    """The certain word of a text by a stage (on a format), by its answers; None if it is no beginning."""
    known = {}
    for further in reckoning.all_texts(letters, 6):
        if form is None or reckoning.has_text(form, further):
            words = reckoning.answers(stage, further)
            if words:
                known[further] = words[0]
    return linereckoning.certain(known, text)


class ByHand:
    """Writers put one behind the other by hand; all is read anew for each question."""

    def __init__(self, line, pieces):
        self.line = line
        writers = [Writer(line.stages[0].within(line.form))] + [Writer(stage) for stage in line.stages[1:]]
        for before, writer in zip(writers, writers[1:]):
            writer.take(before.handed)
        start = writers[-1].handed
        self.out = [start]
        for piece in pieces:
            for writer in writers:
                piece = writer.take(piece)
            self.out.append(piece)
        self.writers = writers

    def end(self):
        rest = ""
        word = self.writers[0].end()
        for writer in self.writers[1:]:
            first = writer.take(word)
            word = first + writer.end()
        return rest + word


def cuts(text):
    """All ways to cut a text into pieces, none of them empty."""
    if not text:
        yield ()
    for at in range(1, len(text) + 1):
        for rest in cuts(text[at:]):
            yield (text[:at],) + rest


class RelayTest(unittest.TestCase):

    def test_examples(self):
        relay = Relay(LINE)
        self.assertIs(relay.line, LINE)
        self.assertEqual((relay.taken, relay.handed), ("", ""))
        self.assertEqual([relay.take(piece) for piece in ("a", "a", "", "b", "a")], ["", "aa", "", "b", ""])
        self.assertEqual((relay.taken, relay.handed, relay.end()), ("aaba", "aab", "aa"))
        relay.undo()
        self.assertEqual((relay.taken, relay.handed, relay.end()), ("aab", "aab", ""))

    def test_what_is_certain_at_the_very_beginning(self):
        relay = Relay(line=HEADS)
        self.assertEqual((relay.taken, relay.handed, relay.end()), ("", "zxy", "w"))
        self.assertEqual((relay.take(piece="ba"), relay.handed, relay.end()), ("yx", "zxyyx", "w"))
        relay.undo()
        self.assertEqual((relay.taken, relay.handed), ("", "zxy"))
        with self.assertRaises(NothingToUndo):
            relay.undo()
        self.assertEqual((relay.taken, relay.handed), ("", "zxy"))

    def test_each_cut_of_each_text(self):
        for line in LINES:
            texts = [text for text in TEXTS if line.comes_to(text) is not None][:14]
            for text in texts:
                for pieces in list(cuts(text))[:12]:
                    relay, hand = Relay(line), ByHand(line, pieces)
                    out = [relay.handed] + [relay.take(piece) for piece in pieces]
                    self.assertEqual(out, hand.out)
                    self.assertEqual(relay.handed, "".join(out))
                    self.assertEqual(relay.end(), hand.end())
                    self.assertEqual(relay.handed + relay.end(), linereckoning.comes_to(line, text))
                    self.assertEqual(relay.taken, text)

    def test_the_writer_of_the_whole_hands_on_no_less(self):
        for line in LINES:
            if line.form.first_text() is not None:
                for text in TEXTS[:20]:
                    relay, writer = Relay(line), Writer(whole(line))
                    try:
                        writer.take(text)
                    except BadPiece as error:
                        self.assertEqual(self.refused(relay, text), error.place)
                        continue
                    relay.take(text)
                    self.assertTrue(writer.handed.startswith(relay.handed))

    def test_what_writers_hand_on_is_certain_by_the_answers(self):
        for line in LINES[:25]:
            if line.form.first_text() is not None and line.form.is_endless():
                first = certain_by_texts(line.stages[0], line.form, "", "ab")
                self.assertTrue(first is None or first.startswith(ByHand(line, ()).writers[0].handed))

    def refused(self, relay, piece):
        before = (relay.taken, relay.handed)
        with self.assertRaises(BadPiece) as caught:
            relay.take(piece)
        self.assertEqual((relay.taken, relay.handed), before)
        return caught.exception.place

    def test_days_of_deeds(self):
        rng = random.Random(12)
        for line in LINES:
            if line.form.first_text() is None:
                continue
            relay, pieces = Relay(line), []
            for _ in range(14):
                kind = rng.random()
                if kind < 0.3 and pieces:
                    self.assertIsNone(relay.undo())
                    pieces.pop()
                else:
                    piece = "".join(rng.choice("ab") for _ in range(rng.randint(0, 2)))
                    text = "".join(pieces)
                    starts = [at for at in range(len(piece)) if line.form.after(text + piece[:at + 1]).ends == ()]
                    if starts:
                        self.assertEqual(self.refused(relay, piece), starts[0])
                    else:
                        before = relay.handed
                        self.assertEqual(before + relay.take(piece), relay.handed)
                        pieces.append(piece)
                hand = ByHand(line, pieces)
                self.assertEqual((relay.taken, relay.handed), ("".join(pieces), "".join(hand.out)))
                self.assert_end(line, relay)

    def assert_end(self, line, relay):
        before = (relay.taken, relay.handed)
        word = line.comes_to(relay.taken)
        if word is None:
            with self.assertRaises(NoAnswer) as caught:
                relay.end()
            self.assertEqual(caught.exception.text, relay.taken)
        else:
            self.assertEqual(relay.handed + relay.end(), word)
        self.assertEqual((relay.taken, relay.handed), before)

    def test_wrong_pieces(self):
        relay = Relay(Line(AB, (spelled((("a", "x"), ("b", "y"))), SWAP)))
        relay.take("a")
        for piece, place in (("a", 0), ("ba" * 20 + "a", 40), ("bb", 1), ("z", 0)):
            self.assertEqual(self.refused(relay, piece), place)
        for thing in [None, "A", "a b", "-", ("b",), ["b"], b"b"] + reckoning.any_values():
            if not reckoning.is_word(thing):
                self.assertEqual(self.refused(relay, thing), -1)
        # Behind an a the b that must follow is certain.
        self.assertEqual((relay.handed, relay.take("b"), relay.handed), ("pq", "", "pq"))

    def test_form_without_texts(self):
        # The second stage has words of its own that would be certain.
        line = Line(EMPTY_FORM, (HEADS.stages[0], HEADS.stages[1]))
        relay = Relay(line)
        self.assertEqual((relay.taken, relay.handed), ("", ""))
        for piece, place in (("", 0), ("a", 0), ("zz", 0), ("A", -1), (None, -1), ((), -1)):
            self.assertEqual(self.refused(relay, piece), place)
        with self.assertRaises(NoAnswer) as caught:
            relay.end()
        self.assertEqual(caught.exception.text, "")
        with self.assertRaises(NothingToUndo):
            relay.undo()
        self.assertEqual(Relay(Line(EMPTY_FORM, (EMPTY, EMPTY))).handed, "")

    def test_lines_that_do_not_fit(self):
        self.assertGreater(len(STOPPING), 20)
        for line in STOPPING:
            for call in (Relay, back_line):
                with self.assertRaises(Stops) as caught:
                    call(line)
                error = caught.exception
                self.assertTrue(linereckoning.is_stop(line, ("stops", error.index, error.text)))

    def test_long_texts(self):
        line = Line(Format.by_expression("(a* (b | c))"), (LATE, spelled((("x", "a"), ("y", "bb")))))
        relay = Relay(line)
        self.assertEqual([relay.take("a") for _ in range(59)], [""] * 59)
        self.assertEqual((relay.take("c"), relay.end()), ("bb" * 59, ""))
        relay.undo()
        self.assertEqual((relay.take("b"), relay.end()), ("a" * 59, ""))


class BackTest(unittest.TestCase):

    def test_small_lines(self):
        seen = {"back": 0, "twins": 0}
        for line in LINES:
            answers = {}
            for text in TEXTS:
                word = linereckoning.comes_to(line, text)
                if word is not None:
                    answers.setdefault(word, []).append(text)
            try:
                other = back_line(line)
            except Twins as error:
                seen["twins"] += 1
                self.assertNotEqual(error.text, error.other)
                for text in (error.text, error.other):
                    self.assertEqual(linereckoning.comes_to(line, text), error.answer)
                continue
            seen["back"] += 1
            self.assertTrue(all(len(texts) == 1 for texts in answers.values()))
            self.assertEqual((len(other), other.form), (len(line), line.forms()[-1]))
            self.assertEqual(judge_fits(other), ("fits", line.forms()[::-1]))
            for word, texts in answers.items():
                self.assertEqual(other.traced(word), line.traced(texts[0])[::-1])
            for word in TEXTS[:20]:
                if word not in line.forms()[-1]:
                    self.assertEqual(other.traced(word), ())
            again = back_line(other)
            for texts in answers.values():
                self.assertEqual(again.traced(texts[0]), line.traced(texts[0]))
        self.assertGreater(min(seen.values()), 15)

    def test_example(self):
        line = Line(Format.by_expression("((a b) | a)*"), (ASIDE, SWAP))
        other = back_line(line=line)
        self.assertEqual(other.traced("pq"), ("pq", "xy", "aab"))
        self.assertEqual(other.form, Format.by_expression("(p | q)*"))
        self.assertEqual(answer(whole(other), "qqp"), "ababa")

    def test_stages_need_be_one_to_one_just_for_what_comes_to_them(self):
        blur = spelled((("a", "c"), ("b", "c")))
        line = Line(Format.by_expression("a*"), (spelled((("a", "b"), ("b", "a"))), blur))
        self.assertEqual(back_line(line).comes_to("cc"), "aa")
        with self.assertRaises(Twins) as caught:
            back_line(Line(ANY, line.stages))
        error = caught.exception
        self.assertEqual([line.stages[0].answers(text) != () for text in (error.text, error.other)], [True, True])
        self.assertEqual(len(error.text), len(error.other))

    def test_stops_ahead_of_twins(self):
        with self.assertRaises(Stops):
            back_line(Line(ANY, (spelled((("a", ""), ("b", ""))), EMPTY)))
        with self.assertRaises(Twins) as caught:
            back_line(Line(ANY, (spelled((("a", ""), ("b", ""))),)))
        self.assertEqual(caught.exception.answer, "")

    def test_without_texts(self):
        other = back_line(Line(EMPTY_FORM, (ASIDE, LATE, EMPTY)))
        self.assertEqual((len(other), other.form), (3, EMPTY_FORM))
        self.assertIs(is_fitting(other), True)


if __name__ == "__main__":
    unittest.main()
