import unittest

from streamwrights.drifts import delays, drift, drift_holds, held, room, text_beyond
from streamwrights.errors import Drifts
from streamwrights.sure import is_sure
from streamwrights.translators import Translator
from tests import reckoning
from tests.samples import ASIDE, EMPTY, FORKED, LATE, MANY

DEPTH = 5
ONES = (reckoning.random_translators(81, 200) + reckoning.random_translators(82, 100, letters="a", out="x")
        + reckoning.random_translators(83, 100, letters="a", out="xy", most_word=1))


def is_drift(translator, thing):
    """Whether any value is a drift, from the words of the document; for short texts."""
    if not reckoning.fits(thing, reckoning.is_word, reckoning.is_word, *[lambda part: type(part) is tuple] * 2):
        return False
    text, loop = thing[:2]
    if loop == "" or len(text + loop) > 8:
        return False
    last = {run: state for run, state in reckoning.partial_runs(translator, text + loop)}
    words = []
    for run in thing[2:]:
        kinds = reckoning.fits(run, lambda part: type(part) is int, lambda part: type(part) is tuple and all(
            type(index) is int for index in part))
        if not kinds or run not in last or last[run] not in reckoning.useful_states(translator):
            return False
        start = (run[0], run[1][:len(text)])
        if dict(reckoning.partial_runs(translator, text))[start] != last[run]:
            return False
        words.append((reckoning.written(translator, start), reckoning.written(translator, run)))
    return reckoning.delay_of(words[0][0], words[1][0]) != reckoning.delay_of(words[0][1], words[1][1])


class DriftsTest(unittest.TestCase):

    def test_examples(self):
        self.assertEqual(delays(ASIDE), ((0, 0, "", ""), (0, 1, "x", "y"), (1, 0, "y", "x"), (1, 1, "", "")))
        self.assertEqual((room(ASIDE), held(ASIDE, "b"), drift(ASIDE)), (1, None, None))
        self.assertTrue(is_drift(LATE, drift(LATE)))
        self.assertTrue(drift_holds(LATE, ("", "a", (0, (0,)), (1, (2,)))))
        self.assertIsNone(room(LATE))
        self.assertEqual(text_beyond(LATE, 1), "aa")

    def test_without_beginnings(self):
        for one in (EMPTY, Translator(2, ((0, ""),), ((0, "a", "x", 0),), ((1, ""),))):
            self.assertEqual((delays(one), drift(one), room(one)), ((), None, 0))
            self.assertEqual((held(one, ""), text_beyond(one, 0)), (None, None))

    def test_small_translators(self):
        drifting = 0
        for one in ONES:
            shown = drift(translator=one)
            if shown is None:
                found = delays(translator=one)
                known = reckoning.delays_up_to(one, "ab", DEPTH)
                if set(found) != known:
                    known = reckoning.delays_up_to(one, "ab", DEPTH + 2)
                self.assertEqual(found, tuple(sorted(known)))
                self.assertEqual(room(translator=one), max((len(word) for row in known for word in row[2:]), default=0))
            else:
                drifting += 1
                self.assertTrue(is_drift(one, shown) or len(shown[0] + shown[1]) > 8)
                self.assertIs(drift_holds(one, shown), True)
                self.assertIsNone(room(one))
                with self.assertRaises(Drifts) as caught:
                    delays(one)
                self.assertIs(drift_holds(one, caught.exception.drift), True)
        self.assertTrue(50 < drifting < len(ONES) - 50)

    def test_held_and_text_beyond(self):
        for one in ONES:
            holds = {text: reckoning.held(one, text) for text in reckoning.all_texts("ab", DEPTH)}
            for text in holds:
                self.assertEqual(held(one, text), holds[text])
            for number in range(3):
                beyond = [text for text in holds if holds[text] is not None and holds[text] > number]
                found = text_beyond(one, number)
                if beyond:
                    self.assertEqual(len(found), len(beyond[0]))
                    self.assertGreater(holds[found], number)
                elif found is not None:
                    self.assertGreater(len(found), DEPTH)
                    self.assertGreater(held(one, found), number)
                if drift(one) is not None:
                    self.assertIsNotNone(found)

    def test_drifts_that_are_told_by_lengths_or_letters_alone(self):
        # Both write equally much round by round, but what one of them has ahead is not what goes on.
        shifted = Translator(2, ((0, ""), (1, "y")), ((0, "a", "x", 0), (1, "a", "x", 1)), ((0, ""), (1, "")))
        self.assertTrue(is_drift(shifted, drift(shifted)))
        # What one has ahead goes on for ever.
        ahead = Translator(2, ((0, ""), (1, "x")), ((0, "a", "x", 0), (1, "a", "x", 1)), ((0, ""), (1, "")))
        self.assertEqual(delays(ahead), ((0, 0, "", ""), (0, 1, "", "x"), (1, 0, "x", ""), (1, 1, "", "")))
        # Two ways to one pair with words of one length ahead, of which just one goes on.
        twice = Translator(2, ((0, ""), (1, "xy"), (1, "yx")), ((0, "a", "xy", 0), (1, "a", "xy", 1)),
                           ((0, ""), (1, "")))
        self.assertTrue(is_drift(twice, drift(twice)))
        # A loop of a pair that no text meets is none, nor is one on which nothing is written.
        quiet = Translator(3, ((0, ""), (1, "y")), ((0, "a", "", 0), (1, "a", "", 1), (2, "a", "x", 2)),
                           ((0, ""), (1, "")))
        self.assertIsNone(drift(quiet))
        self.assertEqual(room(quiet), 1)

    def test_drifts_behind_one_way_alone(self):
        # Two ways lead to the states 1 and 2 with words of one length ahead; behind just one of them the loop by c
        # keeps what is ahead.
        for words in (("x", "y"), ("y", "x"), ("x", "x")):
            moves = [(0, letter, word, 1) for letter, word in zip("ab", words)] + [(0, "a", "", 2), (0, "b", "", 2)]
            one = Translator(4, ((0, ""),), tuple(sorted(moves + [(1, "c", "x", 1), (1, "d", "", 3), (2, "c", "x", 2),
                                                                  (2, "e", "", 3)])), ((3, ""),))
            shown = drift(one)
            self.assertIs(shown is None, words == ("x", "x"))
            self.assertTrue(shown is None or is_drift(one, shown))

    def test_loops_that_write_nothing_ahead_of_one_that_writes(self):
        # The delay of x and y stays as it is by b, and grows by c, also behind many a b.
        for word in ("x", ""):
            one = Translator(6, ((0, ""),), ((0, "a", "x", 1), (0, "a", "y", 2), (1, "b", "", 1), (1, "c", "", 3),
                                             (2, "b", "", 2), (2, "c", "", 4), (3, "c", word, 3), (3, "d", "", 5),
                                             (4, "c", word, 4), (4, "e", "", 5)), ((5, ""),))
            shown = drift(one)
            self.assertIs(shown is None, word == "")
            self.assertTrue(shown is None or is_drift(one, shown))

    def test_states_of_no_use_have_no_drift(self):
        # State 1 is met, but leads to no end; state 2 leads to one, but is not met.
        moves = ((0, "a", "x", 0), (0, "a", "x", 1), (1, "a", "", 1), (2, "a", "yy", 2))
        one = Translator(3, ((0, ""), (1, "")), moves, ((0, ""), (2, "")))
        self.assertEqual((delays(one), drift(one), room(one), text_beyond(one, 0)), (((0, 0, "", ""),), None, 0, None))
        self.assertIs(drift_holds(one, ("", "a", (0, (0,)), (1, (2,)))), False)
        self.assertIs(drift_holds(one, ("", "a", (1, (2,)), (0, (0,)))), False)
        useful = Translator(3, one.begins, one.moves, ((0, ""), (1, "")))
        self.assertIs(drift_holds(useful, ("", "a", (0, (0,)), (1, (2,)))), True)
        self.assertEqual((held(one, "aa"), held(useful, "aa")), (0, 2))

    def test_many_delays_without_a_drift(self):
        # Each of twelve letters doubles the words that may have been written; a loop behind them adds no drift.
        moves = []
        for state in range(12):
            moves += [(state, "a", "x", state + 1), (state, "a", "y", state + 1)]
        ladder = Translator(13, ((0, ""),), tuple(moves + [(12, "a", "", 12)]), ((12, ""),))
        self.assertIsNone(drift(ladder))
        looped = Translator(13, ((0, ""),), tuple(moves + [(12, "a", "x", 12)]), ((12, ""),))
        self.assertIs(drift_holds(looped, drift(looped)), True)
        self.assertEqual(held(ladder, "a" * 12), 12)

    def test_held_of_long_texts_with_many_runs(self):
        sure = Translator(2, ((0, ""),), ((0, "a", "x", 0), (0, "a", "x", 1), (1, "a", "x", 0), (1, "a", "x", 1),
                                          (1, "b", "", 1)), ((0, ""), (1, "yy")))
        self.assertEqual(held(sure, "a" * 60), 0)
        self.assertEqual(held(translator=LATE, text="a" * 60), 60)
        self.assertEqual(text_beyond(translator=LATE, number=20), "a" * 21)
        self.assertIsNone(held(LATE, "bb"))
        # The longest word counts, not the last one, and only where it leads to a useful state.
        begun = Translator(2, ((0, "xx"), (0, "y"), (1, "zzzz")), ((0, "a", "", 0),), ((0, ""),))
        self.assertEqual((held(begun, ""), held(begun, "a")), (2, 2))
        self.assertEqual(text_beyond(begun, 1), "")

    def test_drift_holds_of_changed_drifts_and_any_values(self):
        further = [("", "", (0, ()), (1, ())), ("a", "a", (0, (0, 0)), (1, (2, 2))),
                   ("", "aa", (0, (0, 0)), (1, (2, 2))), ("", "a", (0, (0,), 0), (1, (2,))),
                   ("", "b", (0, (1,)), (0, (1,))), ("", "a", (0, (0,)), (0, (0,)))]
        for one in (LATE, MANY, FORKED, ASIDE):
            shown = drift(one)
            if shown is None:
                shown = ("", "a", (0, (0,)), (0, (0,)))
            for thing in [*reckoning.mutations(shown), *reckoning.any_values(), *further]:
                self.assertIs(drift_holds(one, thing), is_drift(one, thing), thing)

    def test_sure_or_not(self):
        kinds = {(is_sure(one), drift(one) is None) for one in ONES + [LATE]}
        self.assertEqual(len(kinds), 4)


if __name__ == "__main__":
    unittest.main()
