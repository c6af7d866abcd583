import unittest

from streamwrights.drifts import delays, drift
from streamwrights.errors import NoRest, NotSure
from streamwrights.marks import alike_holds, are_alike, completers, is_beginning, is_rest, judge_alike
from streamwrights.sure import sure_holds
from streamwrights.translators import Translator
from tests import markreckoning, reckoning
from tests.samples import ASIDE, EMPTY, FORKED, LATE

ONES = (reckoning.random_sures(121, 80) + reckoning.random_sures(122, 30, letters="a", out="xy")
        + reckoning.random_sures(123, 30, out="x"))
# State 1 leads to no end, state 2 is met by no text, state 3 is both, and state 4 is of use behind b alone.
ODD = Translator(5, ((0, ""), (1, "q")), ((0, "a", "x", 0), (0, "b", "", 4), (1, "a", "y", 1), (1, "b", "y", 1),
                                          (2, "a", "x", 0), (2, "b", "z", 4), (3, "c", "x", 3), (4, "a", "", 4)),
                 ((0, "x"), (2, ""), (4, "y")))


class RestsTest(unittest.TestCase):

    def test_some(self):
        self.assertEqual((completers(ASIDE, ""), completers(ASIDE, "b"), completers(ASIDE, "bb")), ((0,), (1,), ()))
        self.assertEqual([is_rest(LATE, text) for text in ("", "b", "ab", "bc", "a", "abc")],
                         [True, True, True, False, False, False])
        self.assertEqual([is_beginning(LATE, text) for text in ("", "b", "ab", "bc", "a", "abc")],
                         [True, True, True, False, True, False])
        self.assertEqual((is_rest(EMPTY, ""), is_beginning(EMPTY, ""), completers(EMPTY, "")), (False, False, ()))

    def test_states_of_no_use(self):
        self.assertEqual((completers(ODD, ""), completers(ODD, "a"), completers(ODD, "b")), ((0, 4), (0, 4), (0,)))
        self.assertEqual((is_rest(ODD, "c"), is_rest(ODD, "ab"), is_rest(ODD, "bb")), (False, True, False))
        self.assertEqual((is_beginning(ODD, "bb"), is_beginning(ODD, "ba"), is_beginning(ODD, "c")),
                         (False, True, False))

    def test_small_translators(self):
        for one in ONES + [ODD]:
            known = reckoning.answers_up_to(one, "ab", 8)
            useful = reckoning.useful_states(one)
            for text in reckoning.all_texts("ab", 4):
                found = markreckoning.completers(one, text)
                self.assertEqual(completers(translator=one, text=text), tuple(sorted(found)))
                self.assertIs(is_rest(translator=one, text=text), found != set())
                reached = any(last in useful for _, last in reckoning.partial_runs(one, text))
                self.assertIs(is_beginning(translator=one, text=text), reached)
                if any(other.startswith(text) for other in known):
                    self.assertIs(reached, True)
                if any(other.endswith(text) for other in known):
                    self.assertNotEqual(found, set())


class AlikeTest(unittest.TestCase):

    def test_examples(self):
        self.assertIs(are_alike(LATE, "b", "c"), False)
        self.assertTrue(alike_holds(LATE, "b", "c", ("drift", "", "a", "", (0, (0,)), (1, (2,)))))
        self.assertTrue(alike_holds(LATE, "", "b", ("text", "")))
        self.assertEqual(judge_alike(LATE, "b", "ab"), ("alike", ((0, 1), (2,)), ((0, 0, "", ""),)))
        self.assertEqual(judge_alike(LATE, "", "b")[0], "text")

    def test_small_translators(self):
        kinds = {}
        for one in ONES + [ODD, LATE, ASIDE]:
            rests = [text for text in reckoning.all_texts("ab", 3) if markreckoning.completers(one, text)]
            for v in rests[:6]:
                for w in rests[:6]:
                    paper = judge_alike(one, v, w)
                    kinds[paper[0]] = kinds.get(paper[0], 0) + 1
                    right = (markreckoning.is_alike_paper if paper[0] == "alike" else markreckoning.is_unlike_paper)
                    self.assertTrue(right(one, v, w, paper), (str(one), v, w, paper))
                    self.assertIs(alike_holds(translator=one, v=v, w=w, thing=paper), True)
                    self.assertIs(are_alike(translator=one, v=v, w=w), paper[0] == "alike")
                    if paper[0] == "alike":
                        self.assertIs(are_alike(one, w, v), True)
        self.assertTrue(min(kinds.values()) > 100 and len(kinds) == 3, kinds)

    def test_alike_rests_stay_so_with_a_letter_ahead(self):
        for one in ONES:
            rests = [text for text in reckoning.all_texts("ab", 2) if is_rest(one, text)]
            for v in rests:
                for w in rests:
                    if are_alike(one, v, w):
                        for letter in "ab":
                            self.assertEqual(is_rest(one, letter + v), is_rest(one, letter + w))
                            if is_rest(one, letter + v):
                                self.assertTrue(are_alike(one, letter + v, letter + w))

    def test_bounds_of_answers(self):
        for one in ONES:
            known = reckoning.answers_up_to(one, "ab", 8)
            rests = [text for text in reckoning.all_texts("ab", 2) if is_rest(one, text)]
            for v in rests:
                for w in rests:
                    if not are_alike(one, v, w):
                        continue
                    for u in reckoning.all_texts("ab", 6):
                        self.assertIs(u + v in known, u + w in known)
                    longest = [max([len(part) for u in reckoning.all_texts("ab", 6) if u + v in known
                                    and low <= len(u) <= high for part in reckoning.delay_of(known[u + v], known[u + w])],
                                   default=0) for low, high in ((0, 4), (5, 6))]
                    rows = judge_alike(one, v, w)[2]
                    tails = max([len(word) for _, word in one.ends]) + 4
                    self.assertLessEqual(max(longest), max([len(word) for row in rows for word in row[2:]]) + tails)

    def test_no_rest(self):
        for call in (judge_alike, are_alike):
            for v, w, text in (("bb", "b", "bb"), ("b", "ca", "ca"), ("bc", "cb", "bc"), ("a", "a", "a")):
                with self.assertRaises(NoRest) as caught:
                    call(LATE, v, w)
                self.assertEqual(caught.exception.text, text)
        with self.assertRaises(NoRest):
            judge_alike(EMPTY, "", "")
        paper = ("alike", ((0, 1), (2,)), ())
        self.assertIs(alike_holds(LATE, "bb", "bb", paper), False)
        self.assertIs(alike_holds(LATE, "bb", "b", ("text", "")), False)
        self.assertIs(alike_holds(LATE, "", "bb", ("text", "b")), False)
        self.assertIs(alike_holds(EMPTY, "", "", ("alike", (), ())), False)

    def test_not_sure(self):
        for call in (lambda: is_rest(FORKED, "c"), lambda: is_beginning(FORKED, "c"), lambda: completers(FORKED, ""),
                     lambda: are_alike(FORKED, "c", "c"), lambda: judge_alike(FORKED, "c", "c"),
                     lambda: alike_holds(FORKED, "c", "c", None)):
            with self.assertRaises(NotSure) as caught:
                call()
            self.assertIs(sure_holds(FORKED, caught.exception.paper), True)

    def test_long_texts(self):
        self.assertIs(is_rest(LATE, "a" * 59 + "c"), True)
        self.assertIs(is_beginning(LATE, "a" * 60), True)
        self.assertIs(are_alike(LATE, "a" * 59 + "c", "c"), True)
        busy = Translator(2, ((0, ""),), ((0, "a", "x", 0), (0, "a", "x", 1), (1, "a", "x", 0), (1, "a", "x", 1)),
                          ((0, ""), (1, "")))
        self.assertIs(are_alike(busy, "a" * 60, ""), True)


class PapersTest(unittest.TestCase):

    def test_changed_papers(self):
        cases = [(LATE, "b", "ab"), (LATE, "b", "c"), (LATE, "", "b"), (ODD, "", "a"), (ODD, "a", "b")]
        cases += [(one, "", "a") for one in ONES[:40] if is_rest(one, "") and is_rest(one, "a") and one.states < 5]
        for one, v, w in cases:
            for thing in reckoning.mutations(judge_alike(one, v, w)):
                self.assertIs(alike_holds(one, v, w, thing), markreckoning.holds(one, v, w, thing), thing)

    def test_any_values(self):
        further = [("alike",), ("alike", (), ()), ("alike", ((),), ()), ("text",), ("text", "", ""), ("text", "z" * 99),
                   ("drift", "", "", "", (0, ()), (1, ())), ("drift", "", "a", "", (0, (0,), 0), (1, (2,))),
                   ("drift", "", "a", (0, (0,)), (1, (2,))), ("drift", "", "a", "b", (0, (0, 1)), (1, (2, 3))),
                   ("drift", "", "a", "a", (0, (0, 0)), (1, (2, 2))), ("drift", "a", "a", "", (1, (2, 2)), (0, (0, 0)))]
        for thing in [*reckoning.any_values(), *further]:
            for one, v, w in ((LATE, "b", "c"), (LATE, "c", "b"), (LATE, "b", "ab"), (ASIDE, "", "b"), (ODD, "", "a")):
                self.assertIs(alike_holds(one, v, w, thing), markreckoning.holds(one, v, w, thing), thing)

    def test_further_sets_and_rows(self):
        kind, sets, rows = judge_alike(LATE, "b", "ab")
        for more, held in ((((0,), (2,)), True), (((0, 1, 2),), True), (((0, 1), (1,)), True), (((0, 2),), False)):
            whole = tuple(sorted(set(sets + more)))
            self.assertIs(alike_holds(LATE, "b", "ab", (kind, whole, rows)), held)
        # No set is empty, and all are ascending.
        for more in ((), (1, 0), (0, 0), (0, True), (2, 2), (0, 3), (-1, 0)):
            self.assertIs(alike_holds(LATE, "b", "ab", (kind, tuple(sorted(sets + (more,))), rows)), False)
        # Sets that lead on to others need these, too; and the set of all begins is needed.
        self.assertIs(alike_holds(LATE, "b", "ab", (kind, ((0,), (0, 1)), rows)), False)
        self.assertIs(alike_holds(LATE, "b", "ab", (kind, ((0,), (2,)), rows)), False)
        # Rows of pairs that are not led on, and rows with words that both parts begin with.
        for more, held in (((2, 2, "x", "y"), True), ((1, 1, "q", "q"), True), ((1, 0, "", "zz"), True),
                           ((0, 0, "x", ""), True), ((0, 0, "x", "y"), False), ((0, 3, "", ""), False)):
            self.assertIs(alike_holds(LATE, "b", "ab", (kind, sets, tuple(sorted(rows + (more,))))), held, more)
            self.assertIs(markreckoning.holds(LATE, "b", "ab", (kind, sets, tuple(sorted(rows + (more,))))), held)
        # Words that both begin with are left out behind the next letter.
        quiet = Translator(2, ((0, ""),), ((0, "a", "", 1), (0, "b", "", 0)), ((1, ""),))
        kind, sets, rows = judge_alike(quiet, "a", "ba")
        self.assertIs(alike_holds(quiet, "a", "ba", (kind, sets, rows + ((0, 0, "xz", "xy"),))), False)
        longer = tuple(sorted(rows + ((0, 0, "xz", "xy"), (0, 0, "z", "y"))))
        self.assertIs(alike_holds(quiet, "a", "ba", (kind, sets, longer)), True)

    def test_all_delays_are_rows_enough(self):
        # So it is for the sets alone to tell which beginnings complete which rests.
        kinds = {True: 0, False: 0}
        for one in ONES + [ASIDE, ODD]:
            rests = [text for text in reckoning.all_texts("ab", 2) if is_rest(one, text)]
            if rests == [] or drift(one) is not None:
                continue
            thing = ("alike", judge_alike(one, rests[0], rests[0])[1], delays(one))
            for v in rests:
                for w in rests:
                    held = are_alike(one, v, w)
                    kinds[held] += 1
                    self.assertIs(alike_holds(one, v, w, thing), held)
        self.assertGreater(min(kinds.values()), 100)

    def test_rows_of_states_that_no_text_meets(self):
        # States 2 and 3 lead on to state 0 by the same letter, so their rows need further ones.
        one = Translator(4, ((0, ""),), ((0, "a", "x", 0), (1, "a", "x", 0), (2, "a", "xy", 0), (3, "a", "x", 0)),
                         ((0, ""),))
        kind, sets, rows = judge_alike(one, "", "a")
        self.assertEqual((kind, sets, rows), ("alike", ((0,),), ((0, 0, "", ""),)))
        for more, held in (((1, 3, "", ""), True), ((2, 2, "", ""), True), ((1, 2, "y", "x"), False),
                           ((1, 1, "y", ""), False), ((2, 3, "", ""), False), ((3, 1, "z", "z"), True),
                           ((1, 1, "zx", "zx"), True), ((3, 2, "", ""), False), ((1, 2, "", ""), False)):
            thing = (kind, sets, tuple(sorted(rows + (more,))))
            self.assertIs(alike_holds(one, "", "a", thing), held, more)
            self.assertIs(markreckoning.holds(one, "", "a", thing), held, more)

    def test_the_set_of_all_begins_counts_the_states_of_no_use_too(self):
        kind, sets, rows = judge_alike(ODD, "", "a")
        self.assertEqual((kind, (0, 1) in sets), ("alike", True))
        useful = tuple(sorted({tuple(state for state in states if state != 1) for states in sets} - {()}))
        self.assertIs(alike_holds(ODD, "", "a", (kind, sets, rows)), True)
        self.assertIs(alike_holds(ODD, "", "a", (kind, useful, rows)), False)


if __name__ == "__main__":
    unittest.main()
