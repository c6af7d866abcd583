import random
import unittest

from streamwrights.back import (back_holds, before, behind, change_places, first_source, image, is_one_to_one,
                                judge_back, keeps, lost, settles, sources, turned, unlike_order, unsettled, way_back)
from streamwrights.errors import NotSure, Silent, StreamError, Twins
from streamwrights.formats import Format
from streamwrights.makers import filter_of, spelled
from streamwrights.readings import has_answer
from streamwrights.sure import is_sure, sure_holds
from streamwrights.translators import Translator
from tests import backreckoning, reckoning
from tests.samples import AB, ASIDE, EMPTY, FORKED, LATE, MANY

DOUBLE = Translator(1, ((0, ""),), ((0, "a", "aa", 0), (0, "b", "b", 0)), ((0, ""),))
DROP = Translator(1, ((0, ""),), ((0, "a", "a", 0), (0, "b", "", 0)), ((0, ""),))
BLUR = Translator(1, ((0, ""),), ((0, "a", "c", 0), (0, "b", "c", 0)), ((0, ""),))
# A silent loop that stands behind a letter that is written, and ahead of an end that writes.
ROUND = Translator(3, ((0, "x"),), ((0, "a", "y", 1), (1, "b", "", 2), (2, "a", "", 1)), ((2, "z"),))
# Moves that write nothing go round among states of no use alone.
LOST = Translator(3, ((0, ""),), ((0, "a", "x", 0), (0, "b", "", 1), (1, "b", "", 1), (2, "a", "", 2)), ((0, ""),
                                                                                                       (2, "")))
WORDS = reckoning.all_texts("ab", 4)
ONES = (reckoning.random_translators(61, 150, out="ab", most_states=4, most_moves=8)
        + reckoning.random_translators(62, 60, out="a", most_word=1)
        + reckoning.random_sures(63, 60) + [EMPTY, FORKED.within(Format.by_expression("(a | b)*")), DROP, DOUBLE])
FORMS = reckoning.random_formats(64, 30) + [AB, Format(1, (), ()), Format(1, ((0, "a", 0), (0, "b", 0)), (0,))]


def pairs_of(translator, most, letters="ab"):
    """The answers of all texts of at most so many letters."""
    rows = reckoning.reached(translator, letters, most)
    return {text: tuple(sorted({word + tail for state, word in rows[text] for last, tail in translator.ends
                                if last == state})) for text in rows}


def is_least(form):
    return form == form.least()


class ExamplesTest(unittest.TestCase):

    def test_before_and_behind(self):
        form = Format.by_expression("(a a b)*")
        self.assertEqual(behind(DOUBLE, AB), form)
        self.assertEqual(before(DOUBLE, form), AB)
        self.assertEqual(sources(DOUBLE, "aab"), Format.by_expression("(a b)"))
        self.assertIsNone(first_source(DOUBLE, "aba"))

    def test_one_to_one(self):
        self.assertIs(is_one_to_one(DOUBLE), True)
        self.assertEqual((way_back(DOUBLE).answers("aab"), way_back(DOUBLE).answers("a")), (("ab",), ()))
        with self.assertRaises(Silent) as caught:
            turned(DROP)
        shown = (caught.exception.text, caught.exception.loop, caught.exception.rest)
        self.assertTrue(backreckoning.is_silent_loop(DROP, *shown))
        self.assertTrue(back_holds(DROP, ("twins", "", "b", "")) and back_holds(BLUR, ("twins", "a", "b", "c")))
        self.assertEqual((judge_back(DROP)[0], judge_back(BLUR)[0]), ("twins", "twins"))
        self.assertEqual(turned(BLUR).answers("cc"), ("aa", "ab", "ba", "bb"))

    def test_what_stays(self):
        self.assertIs(settles(DROP), True)
        self.assertNotIn(unsettled(DOUBLE), (None, ""))
        self.assertIs(change_places(DOUBLE, DROP), True)
        text = unlike_order(DROP, BLUR)
        self.assertNotEqual(DROP.through(BLUR).answers(text), BLUR.through(DROP).answers(text))
        self.assertEqual(lost(DOUBLE, AB), "ab")
        self.assertIs(keeps(DROP, Format.by_expression("a*")), True)

    def test_by_names(self):
        self.assertEqual(before(translator=DOUBLE, form=AB), Format.by_expression("1"))
        self.assertEqual(behind(translator=DROP, form=AB), Format.by_expression("a*"))
        self.assertEqual(image(translator=BLUR), Format.by_expression("c*"))
        self.assertEqual(sources(translator=DOUBLE, answer="b"), Format.by_expression("b"))
        self.assertEqual(first_source(translator=BLUR, answer="cc"), "aa")
        self.assertEqual(turned(translator=DOUBLE).answers("b"), ("b",))
        self.assertIs(back_holds(translator=DOUBLE, thing=judge_back(translator=DOUBLE)), True)
        self.assertIs(is_one_to_one(translator=BLUR), False)
        self.assertEqual(way_back(translator=DOUBLE).answers("aa"), ("a",))
        self.assertIs(settles(translator=DOUBLE), False)
        self.assertNotEqual(unsettled(translator=DOUBLE), None)
        self.assertIs(change_places(one=DOUBLE, other=DROP), True)
        self.assertIsNone(unlike_order(one=DOUBLE, other=DROP))
        self.assertIs(keeps(translator=DOUBLE, form=AB), False)
        self.assertEqual(lost(translator=DOUBLE, form=AB), "ab")


class FormatsTest(unittest.TestCase):

    def test_small_translators(self):
        rng = random.Random(3)
        for one in ONES:
            form = rng.choice(FORMS)
            pairs = pairs_of(one, 5)
            found, others, all_of_them = before(one, form), behind(one, form), image(one)
            for part in (found, others, all_of_them):
                self.assertTrue(is_least(part))
            for text, words in pairs.items():
                self.assertEqual(text in found, any(reckoning.has_text(form, word) for word in words))
                for word in words:
                    self.assertIn(word, all_of_them)
                    self.assertTrue(not reckoning.has_text(form, text) or word in others)
            for word in WORDS:
                self.assertEqual(word in all_of_them, backreckoning.has_source(one, word))
                self.assertEqual(word in others, backreckoning.has_source(one, word, form))

    def test_sources(self):
        rng = random.Random(4)
        for one in ONES:
            pairs = pairs_of(one, 5)
            for word in rng.sample(WORDS, 6):
                found = sources(one, word)
                self.assertTrue(is_least(found))
                self.assertEqual([text for text in pairs if text in found],
                                 [text for text in pairs if word in pairs[text]])
                self.assertEqual(first_source(one, word), found.first_text())
                if not backreckoning.has_silent_loop(one):
                    self.assertEqual(set(found.texts(most=30)), backreckoning.sources_of(one, word))

    def test_letters_that_nothing_uses_are_left_out(self):
        one = spelled((("a", "xy"), ("b", "z"), ("c", "")))
        wide = Format(2, ((0, "a", 1), (0, "b", 1), (0, "q", 1)), (1,))
        self.assertEqual(behind(one, wide).letters, "xyz")
        self.assertEqual(before(one, Format.by_expression("(x | z)")).letters, "bc")
        self.assertEqual(image(one), Format.by_expression("((x y) | z)*"))
        self.assertEqual(before(one, wide), Format(1, (), ()))
        self.assertEqual(sources(one, "q"), Format(1, (), ()))

    def test_silent_moves_round_and_round(self):
        self.assertEqual(image(ROUND), Format.by_expression("(x y z)"))
        self.assertEqual(sources(ROUND, "xyz"), Format.by_expression("(a b (a b)*)"))
        self.assertEqual(first_source(ROUND, "xyz"), "ab")
        self.assertEqual(behind(ROUND, Format.by_expression("(a b a b)")), Format.by_expression("(x y z)"))
        self.assertEqual(behind(ROUND, Format.by_expression("(a b a)")), Format(1, (), ()))
        self.assertEqual(before(ROUND, Format.by_expression("(x y z)+")), Format.by_expression("(a b (a b)*)"))
        self.assertEqual(lost(ROUND, Format.by_expression("(a | b)*")), "ab")
        self.assertEqual(judge_back(ROUND)[0], "twins")

    def test_without_answers(self):
        lone = Format(1, (), ())
        for one in (EMPTY, Translator(2, ((0, "x"),), ((0, "a", "x", 0),), ((1, ""),))):
            self.assertEqual((image(one), before(one, AB), behind(one, AB), sources(one, "")), (lone,) * 4)
            self.assertIsNone(first_source(one, "x"))
            self.assertEqual(turned(one).domain(), lone)
            self.assertEqual(judge_back(one)[0], "back")
            self.assertTrue(back_holds(one, judge_back(one)) and is_one_to_one(one) and settles(one) and keeps(one, AB))
            self.assertEqual(way_back(one).answers(""), ())
            self.assertTrue(back_holds(one, ("back", EMPTY)) and back_holds(one, ("back", MANY)))

    def test_long_words(self):
        busy = Translator(2, ((0, ""), (1, "")), ((0, "a", "", 1), (0, "a", "x", 0), (0, "b", "xx", 1), (0, "c", "y", 0),
                                                  (1, "a", "x", 0), (1, "b", "", 0), (1, "c", "xx", 1)), ((0, ""),))
        word = "x" * 59 + "y"
        text = first_source(busy, word)
        self.assertEqual(len(text), 31)
        self.assertTrue(has_answer(busy, text, word))
        self.assertEqual(first_source(DOUBLE, "a" * 60), "a" * 30)
        self.assertEqual(sources(BLUR, "c" * 60).many(60), 1 << 60)
        self.assertEqual(len(sources(DROP, "a" * 60)), 61)


class TurnedTest(unittest.TestCase):

    def test_word_by_word(self):
        many = 0
        for one in ONES:
            if backreckoning.has_silent_loop(one):
                with self.assertRaises(Silent) as caught:
                    turned(one)
                error = caught.exception
                self.assertTrue(backreckoning.is_silent_loop(one, error.text, error.loop, error.rest))
                continue
            other = turned(one)
            many += 1
            for word in WORDS:
                self.assertEqual(other.answers(word), tuple(sorted(backreckoning.sources_of(one, word))))
        self.assertGreater(many, 100)

    def test_loops_among_states_of_no_use_are_none(self):
        self.assertEqual(turned(LOST).answers("xx"), ("aa",))
        self.assertIs(is_one_to_one(LOST), True)
        self.assertEqual(way_back(LOST).answers("xx"), ("aa",))

    def test_silent_loop_within(self):
        with self.assertRaises(Silent) as caught:
            turned(ROUND)
        error = caught.exception
        self.assertTrue(backreckoning.is_silent_loop(ROUND, error.text, error.loop, error.rest))
        self.assertEqual(len(error.loop) % 2, 0)

    def test_turned_twice(self):
        for one in ONES:
            if not backreckoning.has_silent_loop(one):
                other = turned(one)
                if not backreckoning.has_silent_loop(other):
                    again = turned(other)
                    for text, words in pairs_of(one, 4).items():
                        self.assertEqual(again.answers(text), words)
                    self.assertEqual(image(other), one.domain())

    def test_many_silent_ways(self):
        moves = tuple((state, letter, "", state + 1) for state in range(3) for letter in "abc") + ((3, "a", "x", 0),)
        one = Translator(4, ((0, ""),), moves, ((0, ""), (2, "yy")))
        self.assertEqual(len(turned(one).answers("x")), 27)
        self.assertEqual(len(turned(one).answers("xyy")), 27 * 9)
        self.assertEqual(len(sources(one, "xyy").first_text()), 6)


class PapersTest(unittest.TestCase):

    def test_small_translators(self):
        seen = {"back": 0, "twins": 0}
        for one in ONES:
            pairs = pairs_of(one, 5)
            paper = judge_back(one)
            seen[paper[0]] += 1
            self.assertIs(back_holds(one, paper), True)
            self.assertEqual(is_one_to_one(one), paper[0] == "back")
            if paper[0] == "twins":
                self.assertTrue(backreckoning.are_twins(one, paper))
                with self.assertRaises(Twins) as caught:
                    way_back(one)
                error = caught.exception
                self.assertTrue(backreckoning.are_twins(one, ("twins", error.text, error.other, error.answer)))
                continue
            self.assertIsNone(backreckoning.twins_among(pairs))
            self.assertTrue(backreckoning.leads_back(pairs, paper[1]))
            other = way_back(one)
            for word in WORDS:
                self.assertEqual(set(other.answers(word)), backreckoning.sources_of(one, word))
            self.assertEqual(other.domain(), image(one))
            self.assertIs(is_sure(other), True)
            self.assertIs(back_holds(one, ("back", other)), True)
        self.assertGreater(min(seen.values()), 60)

    def test_other_ways_back(self):
        rng = random.Random(8)
        seen = {True: 0, False: 0}
        for one in ONES[:150]:
            if is_one_to_one(one):
                right = way_back(one)
                further = right | Translator(2, ((0, ""),), ((0, "z", "z", 1),), ((1, ""),))
                self.assertIs(back_holds(one, ("back", further)), True)
                pairs = pairs_of(one, 6)
                for other in changed_translators(rng, right):
                    told = back_holds(one, ("back", other))
                    seen[told] += 1
                    if told != backreckoning.leads_back(pairs, other):
                        # The texts of a few letters do not tell all: a longer one shows it.
                        self.assertIs(told, False)
                        self.assertFalse(backreckoning.leads_back(pairs_of(one, 9), other))
        self.assertGreater(min(seen.values()), 50)

    def test_further_answers(self):
        back = way_back(DOUBLE)
        self.assertIs(back_holds(DOUBLE, ("back", back | Translator(2, ((0, ""),), ((0, "a", "b", 1),), ((1, ""),)))), True)
        # A further answer of a word of the image.
        self.assertIs(back_holds(DOUBLE, ("back", back | Translator(2, ((0, ""),), ((0, "b", "a", 1),), ((1, ""),)))), False)
        # No answer for a word of the image.
        self.assertIs(back_holds(DOUBLE, ("back", back.within(Format.by_expression("(a | b)+")))), False)
        self.assertIs(back_holds(DOUBLE, ("back", back.within(image(DOUBLE)))), True)
        self.assertIs(back_holds(DOUBLE, ("back", EMPTY)), False)
        self.assertIs(back_holds(BLUR, ("back", turned(BLUR))), False)
        # Unlike answers of one text are fine, if each one leads back.
        one = Translator(2, ((0, ""), (0, "z")), ((0, "a", "x", 0), (0, "b", "y", 0)), ((0, ""),))
        self.assertIs(is_one_to_one(one), True)
        self.assertIs(back_holds(one, judge_back(one)), True)

    def test_changed_papers(self):
        for one in (DROP, BLUR, MANY, LATE, ROUND):
            paper = judge_back(one)
            for odd in reckoning.mutations(paper):
                wanted = odd == paper if paper[0] == "back" else backreckoning.are_twins(one, odd)
                self.assertIs(back_holds(one, odd), wanted, odd)

    def test_any_values(self):
        things = reckoning.any_values()
        things += [(kind, thing) for kind in ("back", "twins", "other", 1, None) for thing in reckoning.any_values()]
        things += [("twins", "a", thing, "c") for thing in reckoning.any_values()]
        things += [("back", str(way_back(DOUBLE))), ("back", [way_back(DOUBLE)]), ["back", way_back(DOUBLE)],
                   ("back", way_back(DOUBLE), ""), ("back",), ("twins", "a", "b"), ("twins", "", "b", "", ""),
                   (b"back", way_back(DOUBLE)), ("back", AB), (AB, AB), ("twins", "A", "b", "c"), ("twins", "a", "a", "c")]
        for thing in things:
            self.assertIs(back_holds(DROP, thing), False, thing)
            if not (isinstance(thing, tuple) and len(thing) == 2 and isinstance(thing[1], Translator)):
                self.assertIs(back_holds(DOUBLE, thing), False, thing)
        for kind in ("other", "twins", "Back", "", None, 1, True, b"back"):
            self.assertIs(back_holds(DOUBLE, (kind, way_back(DOUBLE))), False, kind)
        self.assertIs(back_holds(DROP, ("twins", "", "b" * 2000, "")), True)
        self.assertIs(back_holds(DROP, ("twins", "a" * 2000, "b" * 2000, "")), False)


def changed_translators(rng, right):
    """Some translators that are a little otherwise."""
    for _ in range(6):
        begins, moves, ends = list(right.begins), list(right.moves), list(right.ends)
        rows = rng.choice([rows for rows in (begins, moves, ends) if rows] or [[]])
        if rows:
            at = rng.randrange(len(rows))
            row = list(rows[at])
            kind = rng.randrange(4)
            if kind == 0:
                rows.pop(at)
            else:
                place = 2 if len(row) == 4 else 1
                row[place] = rng.choice([row[place], "a", "b", row[place][1:], row[place] + "a"])
                if kind == 1:
                    rows[at] = tuple(row)
                else:
                    rows.append(tuple(row[:-1] + [rng.randrange(right.states)]) if kind == 2 and len(row) == 4
                                else tuple(row))
        yield Translator(right.states, *[tuple(sorted(set(part))) for part in (begins, moves, ends)])


class StayingTest(unittest.TestCase):

    def test_settling(self):
        seen = {True: 0, False: 0}
        more = [filter_of(form) for form in FORMS[:10]] + reckoning.random_translators(65, 100, out="ab", most_states=2,
                                                                                      most_moves=3, most_word=1)
        for one in ONES + more:
            word = unsettled(one)
            self.assertEqual(settles(one), word is None)
            seen[word is None] += 1
            if word is not None:
                self.assertTrue(backreckoning.has_source(one, word))
                self.assertNotEqual(one.answers(word), (word,))
            else:
                for words in pairs_of(one, 4).values():
                    for further in words:
                        self.assertEqual(one.answers(further), (further,))
        self.assertGreater(min(seen.values()), 20)

    def test_answers_without_an_answer_are_unsettled(self):
        one = Translator(2, ((0, ""),), ((0, "a", "b", 1),), ((1, ""),))
        self.assertEqual((unsettled(one), settles(one)), ("b", False))
        # An answer with itself and another one as answers.
        two = Translator(1, ((0, ""),), ((0, "a", "a", 0), (0, "a", "b", 0), (0, "b", "b", 0)), ((0, ""),))
        self.assertIs(settles(two), False)
        self.assertIn("a", unsettled(two))

    def test_changing_places(self):
        seen = {True: 0, False: 0}
        ones = [one for one in reckoning.random_sures(66, 60, most_word=1)] + [DOUBLE, DROP, filter_of(AB), EMPTY]
        rng = random.Random(6)
        couples = [(one, rng.choice(ones)) for one in ones] + [(one, one) for one in ones[:10]] + [(DROP, DOUBLE)]
        for one, other in couples:
            text = unlike_order(one, other)
            self.assertEqual(change_places(one, other), text is None)
            seen[text is None] += 1
            if text is not None:
                self.assertNotEqual(both_ways(one, other, text), both_ways(other, one, text))
            else:
                for further in reckoning.all_texts("ab", 4):
                    self.assertEqual(both_ways(one, other, further), both_ways(other, one, further))
        self.assertGreater(min(seen.values()), 15)

    def test_not_sure(self):
        other = Translator(1, ((0, ""),), ((0, "a", "", 0), (0, "a", "z", 0)), ((0, ""),))
        for call in (change_places, unlike_order):
            for couple, wrong in (((FORKED, other), FORKED), ((other, FORKED), other), ((ASIDE, FORKED), FORKED),
                                  ((FORKED, ASIDE), FORKED)):
                with self.assertRaises(NotSure) as caught:
                    call(*couple)
                self.assertIs(sure_holds(wrong, caught.exception.paper), True)

    def test_keeping(self):
        seen = {True: 0, False: 0}
        rng = random.Random(9)
        for one in ONES + [filter_of(form) for form in FORMS[:10]]:
            form = rng.choice(FORMS)
            text = lost(one, form)
            self.assertEqual(keeps(one, form), text is None)
            seen[text is None] += 1
            wanted = backreckoning.first_lost(pairs_of(one, 5), form)
            if wanted is not None or text is None or len(text) < 6:
                self.assertEqual(text, wanted)
            else:
                self.assertTrue(reckoning.has_text(form, text))
                self.assertTrue(any(not reckoning.has_text(form, word) for word in one.answers(text)))
        self.assertGreater(min(seen.values()), 40)
        # What is lost is the first text in order, not the first one that is met.
        one = Translator(2, ((0, ""),), ((0, "a", "a", 1), (0, "b", "q", 0), (1, "a", "q", 1)), ((0, ""), (1, "")))
        self.assertEqual(lost(one, Format.by_expression("(a | b)*")), "b")
        self.assertEqual(lost(spelled((("a", "a"), ("b", "c"))), Format.by_expression("((b b) | (a b a))")), "bb")
        self.assertIsNone(lost(spelled((("a", "aa"),)), Format.by_expression("a*")))


def both_ways(one, other, text):
    return [further for word in one.answers(text) for further in other.answers(word)]


class ErrorsTest(unittest.TestCase):

    def test_parts_of_errors(self):
        error = Silent("a", "b", "c")
        self.assertEqual((error.text, error.loop, error.rest), ("a", "b", "c"))
        error = Twins(text=1, other=None, answer=())
        self.assertEqual((error.text, error.other, error.answer), (1, None, ()))
        self.assertEqual((Silent.__bases__, Twins.__bases__), ((StreamError,), (StreamError,)))


if __name__ == "__main__":
    unittest.main()
