import unittest

from streamwrights.drifts import drift_holds
from streamwrights.errors import Drifts, NotSure
from streamwrights.makers import filter_of, spelled
from streamwrights.once import certain, is_once, once, once_holds, reader_of
from streamwrights.readers import Reader
from streamwrights.sure import is_sure, sure_holds
from streamwrights.translators import Translator
from tests import reckoning
from tests.samples import AB, ASIDE, EMPTY, FORKED, LATE

ONES = (reckoning.random_sures(101, 120) + reckoning.random_sures(102, 60, out="x")
        + reckoning.random_sures(103, 60, letters="a", out="xy")
        + [one for one in reckoning.random_translators(104, 200) if is_sure(one)])
# Each run goes on in two states, and all write the same.
BUSY = Translator(2, ((0, ""),), ((0, "a", "x", 0), (0, "a", "x", 1), (1, "a", "x", 0), (1, "a", "x", 1)),
                  ((0, "x"), (1, "x")))


class CertainTest(unittest.TestCase):

    def test_some(self):
        self.assertEqual([certain(ASIDE, text) for text in ("", "a", "aa", "aab", "b", "abb")],
                         ["", "", "x", "xy", None, None])
        self.assertEqual([certain(LATE, text) for text in ("", "aa", "aab", "aac", "c")], ["", "", "xx", "yy", ""])
        self.assertEqual(certain(translator=BUSY, text="a" * 60), "x" * 61)
        # What all answers begin with is certain ahead of the first letter, also if it is written at the end alone.
        self.assertEqual(certain(Translator(1, ((0, ""),), (), ((0, "xy"),)), ""), "xy")
        self.assertEqual(certain(EMPTY, ""), None)

    def test_small_translators(self):
        for one in ONES:
            known = reckoning.answers_up_to(one, "ab", 8)
            sure = reckoning.certain_words(known, "ab", 4)
            for text in reckoning.all_texts("ab", 4):
                found = certain(one, text)
                if found != sure.get(text):
                    # Longer texts are needed to tell.
                    sure = reckoning.certain_words(reckoning.answers_up_to(one, "ab", 11), "ab", 4)
                self.assertEqual(found, sure.get(text))


class OnceTest(unittest.TestCase):

    def test_examples(self):
        self.assertEqual(reader_of(ASIDE), Reader(2, "", ((0, "a", "", 1), (1, "a", "x", 1), (1, "b", "y", 0)),
                                                  ((0, ""), (1, "x"))))
        self.assertEqual(once(ASIDE), ("once", reader_of(ASIDE)))
        self.assertIs(is_once(LATE), False)
        self.assertEqual(once(LATE)[0], "drift")
        self.assertTrue(drift_holds(LATE, once(LATE)[1:]))
        self.assertEqual(reader_of(EMPTY), Reader(0, "", (), ()))
        self.assertEqual(reader_of(Translator(2, ((0, "x"),), ((0, "a", "y", 0),), ((1, "z"),))), Reader(0, "", (), ()))
        self.assertEqual(reader_of(filter_of(AB)), Reader(2, "", ((0, "a", "ab", 1), (1, "b", "", 0)), ((0, ""),)))
        self.assertEqual(reader_of(spelled((("a", "xy"), ("b", "")))),
                         Reader(1, "", ((0, "a", "xy", 0), (0, "b", "", 0)), ((0, ""),)))

    def test_small_translators(self):
        drifting, sizes = 0, set()
        for one in ONES:
            self.assertIs(is_once(translator=one), once(one)[0] == "once")
            self.assertIs(once_holds(one, once(translator=one)), True)
            if not is_once(one):
                drifting += 1
                self.assertIs(drift_holds(one, once(one)[1:]), True)
                with self.assertRaises(Drifts) as caught:
                    reader_of(one)
                self.assertIs(drift_holds(one, caught.exception.drift), True)
                continue
            reader = reader_of(translator=one)
            self.assertEqual(once(one), ("once", reader))
            sizes.add(len(reader))
            self.assertIs(reader.is_least, True)
            known = reckoning.answers_up_to(one, "ab", 8)
            for text in reckoning.all_texts("ab", 8):
                self.assertEqual(reader.told(text), known.get(text))
            for text in reckoning.all_texts("ab", 5):
                led = reader.led(text)
                self.assertEqual(led if led is None else led[1], certain(one, text))
            if len(reader) <= 4:
                parts = reckoning.reader_by_texts(known, "ab", 3, 4)
                if reader != Reader(*parts):
                    parts = reckoning.reader_by_texts(reckoning.answers_up_to(one, "ab", 11), "ab", 4, 6)
                self.assertEqual(reader, Reader(*parts))
        self.assertGreater(drifting, 10)
        self.assertTrue({0, 1, 2, 3, 4, 5} <= sizes)

    def test_words_left_over_stand_ahead_of_the_tail(self):
        # Behind an a nothing is certain: the end writes what state 2 has written already, and then its own word.
        one = Translator(6, ((0, ""),), ((0, "a", "", 1), (0, "a", "y", 2), (1, "b", "", 4), (2, "b", "w", 3),
                                         (4, "b", "z", 5), (5, "b", "z", 5)), ((2, "x"), (3, ""), (5, "")))
        self.assertEqual(reader_of(one), Reader(4, "", ((0, "a", "", 1), (1, "b", "", 2), (2, "b", "z", 3),
                                                        (3, "b", "z", 3)), ((1, "yx"), (2, "yw"), (3, ""))))

    def test_readers_that_do(self):
        # Not least, with words written late, and with states of no use.
        late = Reader(3, "", ((0, "a", "", 1), (1, "a", "x", 1), (1, "b", "y", 0), (1, "c", "", 2)),
                      ((0, ""), (1, "x")))
        self.assertIs(once_holds(ASIDE, ("once", late)), True)
        self.assertIs(once_holds(ASIDE, ("once", Reader(2, "", late.moves[:2], late.tails))), False)
        self.assertIs(once_holds(ASIDE, ("once", Reader(3, "x", late.moves, late.tails))), False)
        self.assertIs(once_holds(LATE, ("once", late)), False)
        self.assertIs(once_holds(EMPTY, ("once", Reader(2, "q", ((0, "a", "x", 0),), ((1, ""),)))), True)
        self.assertIs(once_holds(EMPTY, ("once", Reader(1, "", (), ((0, ""),)))), False)

    def test_any_values(self):
        paper = once(ASIDE)
        for thing in [*reckoning.any_values(), ["once", paper[1]], ("once",), ("once", paper[1], ()), ("drift", paper[1]),
                      ("once", str(paper[1])), ("once", ASIDE), (paper[1], "once"), ("once", (paper[1],)), ("drift",)]:
            self.assertIs(once_holds(ASIDE, thing), False)
            self.assertIs(once_holds(LATE, thing), False)
        for odd in reckoning.mutations((2, "", paper[1].moves, paper[1].tails)):
            if isinstance(odd, tuple) and len(odd) == 4 and reckoning.reader_complaint(*odd) is None:
                reader = Reader(*odd)
                same = all(ASIDE.answers(text) == reader.as_translator().answers(text)
                           for text in reckoning.all_texts("abz", 4))
                self.assertIs(once_holds(ASIDE, ("once", reader)), same)

    def test_drifts_as_papers(self):
        shown = ("drift", "", "a", (0, (0,)), (1, (2,)))
        self.assertIs(once_holds(LATE, shown), True)
        for odd in reckoning.mutations(shown):
            held = type(odd) is tuple and len(odd) == 5 and odd[0] == "drift" and drift_holds(LATE, odd[1:])
            self.assertIs(once_holds(LATE, odd), held)
        self.assertIs(once_holds(ASIDE, shown), False)

    def test_not_sure_is_told_first(self):
        two = FORKED
        for call in (lambda: certain(two, "b"), lambda: is_once(two), lambda: reader_of(two), lambda: once(two),
                     lambda: once_holds(two, None), lambda: once_holds(two, ("once", Reader(0, "", (), ())))):
            with self.assertRaises(NotSure) as caught:
                call()
            self.assertIs(sure_holds(two, caught.exception.paper), True)
        drifting = LATE | Translator(1, ((0, ""),), ((0, "a", "", 0), (0, "b", "", 0)), ((0, ""),))
        with self.assertRaises(NotSure):
            reader_of(drifting)

    def test_results_of_results(self):
        one = reader_of(ASIDE).as_translator().through(spelled((("x", "a"), ("y", "ab"))))
        self.assertEqual(reader_of(one).told("aab"), "aab")
        again = reader_of(one | filter_of(AB).within(AB - AB))
        self.assertEqual(again, reader_of(one))
        self.assertEqual(reader_of(one.renumbered(tuple(range(len(one)))[::-1])), again)


if __name__ == "__main__":
    unittest.main()
