import itertools
import unittest

from streamwrights.errors import NotSure
from streamwrights.makers import filter_of
from streamwrights.same import are_same, parting_text
from streamwrights.sure import is_sure, sure_holds
from tests import reckoning
from tests.samples import AB, ASIDE, EMPTY, FORKED, LATE, MANY

DEPTH = 5


class SameTest(unittest.TestCase):

    def test_examples(self):
        self.assertEqual(parting_text(ASIDE, filter_of(AB)), "a")
        self.assertEqual(parting_text(one=ASIDE, other=LATE), "")
        self.assertIsNone(parting_text(EMPTY, EMPTY))
        self.assertIs(are_same(one=ASIDE, other=ASIDE.turned_round().turned_round()), True)
        self.assertIs(are_same(EMPTY, LATE), False)

    def test_small_sure_translators(self):
        sures = [one for one in reckoning.random_translators(71, 200) if is_sure(one)][:25]
        sures += [one for one in reckoning.random_translators(72, 100, letters="a", out="x") if is_sure(one)][:15]
        answers = [[reckoning.answers(one, text) for text in reckoning.all_texts("ab", DEPTH)] for one in sures]
        for at, further in itertools.product(range(len(sures)), repeat=2):
            apart = [text for text, one, other in zip(reckoning.all_texts("ab", DEPTH), answers[at], answers[further])
                     if one != other]
            found = parting_text(sures[at], sures[further])
            self.assertIs(are_same(sures[at], sures[further]), found is None)
            if apart:
                self.assertEqual(len(found), len(apart[0]))
            if found is not None:
                self.assertNotEqual(sures[at].answers(found), sures[further].answers(found))
                self.assertTrue(len(found) > DEPTH or found in apart)

    def test_same_answers_by_other_states(self):
        for one in [one for one in reckoning.random_translators(73, 80) if is_sure(one)]:
            turned = one.renumbered(tuple(range(one.states))[::-1]) | one.trimmed()
            self.assertIsNone(parting_text(one, turned))
            self.assertIs(are_same(turned, one), True)

    def test_not_sure(self):
        for function in (are_same, parting_text):
            for pair, unsure in (((MANY, FORKED), MANY), ((FORKED, MANY), FORKED), ((ASIDE, MANY), MANY),
                                 ((FORKED, EMPTY), FORKED), ((FORKED, FORKED), FORKED)):
                with self.assertRaises(NotSure) as caught:
                    function(*pair)
                self.assertIs(sure_holds(unsure, caught.exception.paper), True)
                self.assertEqual(caught.exception.paper[0], "two")


if __name__ == "__main__":
    unittest.main()
