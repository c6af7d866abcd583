"""Formats from others, and papers for two formats, held against plain reckonings over all texts of some letters."""

import itertools
import unittest

from streamwrights.formatpapers import compared, compared_holds
from streamwrights.formats import Format
from tests import reckoning

DEPTH = 5


class Plain:
    """A format with the set of its texts of up to twice as many letters as the reckonings look at."""

    def __init__(self, form):
        self.form = form
        self.texts = set(reckoning.texts_of(form, "ab", 2 * DEPTH))


PAIRS = [(Plain(one), Plain(other)) for one, other in zip(
    reckoning.random_formats(21, 45, most_states=2), reckoning.random_formats(22, 45, most_states=2))]
ALONE = [Plain(form) for form in reckoning.random_formats(23, 60, most_states=3)]


class JoinedTest(unittest.TestCase):

    def test_joined_formats_are_least_formats(self):
        for one, other in PAIRS:
            for found, texts in ((one.form & other.form, one.texts & other.texts),
                                 (one.form | other.form, one.texts | other.texts),
                                 (one.form - other.form, one.texts - other.texts)):
                self.assertEqual(found, reckoning.least_of(texts.__contains__, "ab", DEPTH))

    def test_least(self):
        for plain in ALONE:
            self.assertEqual(plain.form.least(), reckoning.least_of(plain.texts.__contains__, "ab", DEPTH))
        self.assertEqual(Format(3, ((0, "b", 2), (0, "c", 1), (2, "a", 0), (2, "b", 1)), (0,)).least(),
                         Format(2, ((0, "b", 1), (1, "a", 0)), (0,)))
        self.assertEqual(Format(3, ((1, "a", 2),), (2,)).least(), Format(1, (), ()))
        # Numbers are given by ascending letters from each state, whatever the old ones were.
        self.assertEqual(Format(4, ((0, "a", 3), (0, "b", 1), (1, "a", 2)), (2, 3)).least(),
                         Format(3, ((0, "a", 1), (0, "b", 2), (2, "a", 1)), (1,)))

    def test_backward(self):
        for plain in ALONE:
            if plain.form.size < 3:
                texts = {text[::-1] for text in plain.texts}
                self.assertEqual(plain.form.backward(), reckoning.least_of(texts.__contains__, "ab", DEPTH))
            for text in reckoning.all_texts("ab", 4):
                self.assertIs(text[::-1] in plain.form.backward(), text in plain.texts)
            self.assertEqual(plain.form.backward(), plain.form.backward().least())
        self.assertEqual(Format.by_expression("(a b*)").backward(), Format.by_expression("(b* a)"))
        # A state that no text meets adds nothing.
        self.assertEqual(Format(2, ((0, "a", 0), (1, "b", 0)), (0,)).backward(), Format.by_expression("a*"))

    def test_after(self):
        for plain in ALONE:
            for text in reckoning.all_texts("ab", 3) + ["c", "ac"]:
                texts = {word[len(text):] for word in plain.texts if word.startswith(text)}
                self.assertEqual(plain.form.after(text), reckoning.least_of(texts.__contains__, "ab", 3))
        self.assertEqual(Format.by_expression("(a b*)").after("a"), Format.by_expression("b*"))
        self.assertEqual(Format.by_expression("a").after(text="b"), Format(1, (), ()))

    def test_is_same_is_within_and_parting(self):
        for one, other in PAIRS + [(plain, Plain(plain.form.least())) for plain in ALONE[:10]]:
            apart = reckoning.in_order(one.texts ^ other.texts)
            self.assertEqual(one.form.parting(other.form), apart[0] if apart else None)
            self.assertIs(one.form.is_same(other.form), not apart)
            self.assertIs(one.form.is_within(other.form), not one.texts - other.texts)
        self.assertEqual(Format.by_expression("(a | (a b))").parting(Format.by_expression("(a b)?")), "")
        # The letters of a text apart stand in their order.
        long, none = Format.by_expression("(a b (a | c) b)"), Format.by_expression("0")
        self.assertEqual((long.parting(none), none.parting(long)), ("abab", "abab"))
        self.assertEqual(compared(Format.by_expression("(a a b)*"), Format.by_expression("(a a b)?")),
                         ("apart", "aabaab"))
        self.assertTrue(Format(2, ((0, "a", 1),), (0,)).is_same(Format(1, (), (0,))))

    def test_unlike_letters(self):
        one, other = Format.by_expression("(a | c)*"), Format.by_expression("(b | c)*")
        self.assertEqual(one & other, Format.by_expression("c*"))
        self.assertEqual(one.parting(other), "a")
        self.assertEqual((one | other).many(2), 7)
        self.assertEqual(one - other, Format.by_expression("(c* a (a | c)*)"))

    def test_formats_stay_as_they_are(self):
        for one, other in PAIRS[:10]:
            before = str(one.form), str(other.form)
            joined = [str(one.form & other.form), str(one.form | other.form), str(one.form - other.form)]
            self.assertEqual(joined, [str(one.form & other.form), str(one.form | other.form),
                                      str(one.form - other.form)])
            self.assertEqual((str(one.form), str(other.form)), before)

    def test_larger_formats(self):
        one = Format(14, tuple((state, "a", (state + 1) % 14) for state in range(14)), (0,))
        other = Format(13, tuple((state, "a", (state + 1) % 13) for state in range(13)), (0,))
        self.assertEqual(len(one & other), 182)
        self.assertEqual((one & other).parting(one), "a" * 14)
        self.assertEqual((one | other).after("a" * 5).first_text(), "a" * 8)


class PapersTest(unittest.TestCase):

    def holds(self, one, other, thing):
        """Whether a value is a paper, from the words of the document."""
        if type(thing) is not tuple or len(thing) != 2:
            return False
        if type(thing[0]) is str and thing[0] == "apart":
            if not reckoning.is_word(thing[1]):
                return False
            return reckoning.has_text(one, thing[1]) != reckoning.has_text(other, thing[1])
        if not (type(thing[0]) is str and thing[0] == "same") or type(thing[1]) is not tuple:
            return False
        for pair in thing[1]:
            if not reckoning.fits(pair, lambda part: type(part) is int and -1 <= part < one.size,
                                  lambda part: type(part) is int and -1 <= part < other.size) or pair == (-1, -1):
                return False
        steps = [{(state, letter): target for state, letter, target in form.moves} for form in (one, other)]
        for pair in thing[1]:
            if (pair[0] in one.ends) != (pair[1] in other.ends):
                return False
            for letter in "abc":
                behind = tuple(steps[side].get((pair[side], letter), -1) for side in range(2))
                if behind != (-1, -1) and behind not in thing[1]:
                    return False
        return reckoning.is_sorted(thing[1]) and (0, 0) in thing[1]

    def test_compared(self):
        for one, other in PAIRS + [(plain, Plain(plain.form.least())) for plain in ALONE]:
            paper = compared(one.form, other.form)
            apart = reckoning.in_order(one.texts ^ other.texts)
            self.assertEqual(paper[0], "apart" if apart else "same")
            if apart:
                self.assertEqual(paper, ("apart", apart[0]))
            self.assertIs(compared_holds(one.form, other.form, paper), True)
            self.assertTrue(self.holds(one.form, other.form, paper))
        self.assertEqual(compared(Format.by_expression("a*"), Format(2, ((0, "a", 1), (1, "a", 0)), (0, 1))),
                         ("same", ((0, 0), (0, 1))))
        self.assertEqual(compared(one=Format(2, ((0, "a", 1),), (0,)), other=Format(1, (), (0,))),
                         ("same", ((0, 0), (1, -1))))

    def test_further_papers(self):
        one, other = Format(2, ((0, "a", 1),), (0,)), Format(2, ((0, "b", 1),), (0,))
        self.assertIs(compared_holds(one, other, ("same", ((-1, 1), (0, 0), (1, -1)))), True)
        self.assertIs(compared_holds(one, other, ("same", ((-1, 1), (0, 0), (1, -1), (1, 1)))), True)
        self.assertIs(compared_holds(one, other, ("same", ((-1, -1), (-1, 1), (0, 0), (1, -1)))), False)
        self.assertIs(compared_holds(one, other, ("same", ((0, 0),))), False)
        self.assertIs(compared_holds(one=one, other=other, thing=("same", ())), False)
        # The pairs go on, but just one of a pair is an end; -1 is none.
        loop, blind = Format(1, ((0, "a", 0),), (0,)), Format(1, ((0, "a", 0),), ())
        self.assertIs(compared_holds(loop, blind, ("same", ((0, 0),))), False)
        nothing, paper = Format(1, (), (0,)), ("same", ((0, 0), (1, -1)))
        self.assertIs(compared_holds(one, nothing, paper), True)
        self.assertIs(compared_holds(Format(2, one.moves, (0, 1)), nothing, paper), False)
        every, none = Format.by_expression("a*"), Format(1, (), ())
        self.assertIs(compared_holds(every, none, ("apart", "aaaa")), True)
        self.assertIs(compared_holds(every, none, ("apart", "ab")), False)
        self.assertIs(compared_holds(every, every, ("apart", "")), False)

    def test_changed_papers_and_any_values(self):
        cases = [(Format.by_expression("a*"), Format(2, ((0, "a", 1), (1, "a", 0)), (0, 1))),
                 (Format(2, ((0, "a", 1),), (0,)), Format(2, ((0, "b", 1),), (0,))),
                 (Format.by_expression("(a b)*"), Format.by_expression("(a b)+")),
                 (Format(1, ((0, "a", 0),), (0,)), Format(1, ((0, "a", 0),), ()))]
        for one, other in cases:
            further = [("same", ((0, 0),)), ("same", ((0, 0), (1, 1))), ("apart", "a"), ("apart", "")]
            for thing in [*reckoning.mutations(compared(one, other)), *reckoning.any_values(), *further]:
                self.assertIs(compared_holds(one, other, thing), self.holds(one, other, thing), thing)

    def test_all_pairs_of_small_formats(self):
        forms = reckoning.random_formats(29, 16, most_states=2, letters="a")
        words = ["a" * length for length in range(5)]
        for one, other in itertools.product(forms, repeat=2):
            apart = [word for word in words if reckoning.has_text(one, word) != reckoning.has_text(other, word)]
            self.assertEqual(one.parting(other), apart[0] if apart else None)
            self.assertEqual(compared(one, other)[0], "apart" if apart else "same")


if __name__ == "__main__":
    unittest.main()
