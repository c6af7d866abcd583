import unittest

from streamwrights.errors import BadText, BadTranslator
from streamwrights.formats import Format
from streamwrights.translators import Translator
from tests import reckoning
from tests.samples import AB, ASIDE, EMPTY, FORKED, LATE, MANY

BIG = Translator(999, ((998, "x"),), tuple((state, "a", "", 998 - state) for state in range(999)), ((0, "y"),))


class MakingTest(unittest.TestCase):

    def refused(self, *parts):
        with self.assertRaises(BadTranslator) as caught:
            Translator(*parts)
        return caught.exception.part

    def test_attributes(self):
        one = Translator(states=2, begins=((0, "x"),), moves=((0, "c", "", 1), (1, "a", "yy", 0)), ends=())
        self.assertEqual((one.states, one.begins, one.moves, one.ends, one.letters),
                         (2, ((0, "x"),), ((0, "c", "", 1), (1, "a", "yy", 0)), (), "ac"))
        self.assertEqual((len(one), len(EMPTY), len(BIG)), (2, 0, 999))
        self.assertEqual(EMPTY.letters, "")
        moves = tuple((8 - at, "zkbxqcma"[at], "", 0) for at in range(7, -1, -1))
        self.assertEqual(Translator(9, (), moves, ()).letters, "abckmqxz")

    def test_wrong_parts_in_their_order(self):
        for states in (-1, 1000, True, None, "1", (1,), 10 ** 39):
            self.assertEqual(self.refused(states, None, None, None), "states")
        for rows in (None, [], [(0, "")], ((2, ""),), ((0, "A"),), ((0, ""), (0, "")), ((1, ""), (0, "")),
                     ((True, ""),), ((0,),), ([0, ""],), ((0, "", 0),), (0, ""), ((0, None),), ((-1, ""),)):
            self.assertEqual(self.refused(2, rows, None, None), "begins")
            self.assertEqual(self.refused(2, (), (), rows), "ends")
        for rows in (None, [], ((0, "a", "", 2),), ((2, "a", "", 0),), ((0, "", "", 0),), ((0, "ab", "", 0),),
                     ((0, "a", "X", 0),), ((0, "a", 0),), ((0, "a", "", 0), (0, "a", "", 0)), ((0, "a", "", True),),
                     ((1, "a", "", 0), (0, "a", "", 0)), (["a"],), ((0, "A", "", 0),)):
            self.assertEqual(self.refused(2, (), rows, None), "moves")
        self.assertEqual(self.refused(0, ((0, ""),), (), ()), "begins")

    def test_several_moves_for_a_letter_may_stand(self):
        one = Translator(2, (), ((0, "a", "", 0), (0, "a", "", 1), (0, "a", "x", 0)), ((0, ""), (0, "x")))
        self.assertEqual(len(one.moves), 3)

    def test_changed_and_any_values(self):
        right = (2, ((0, ""), (1, "x")), ((0, "a", "x", 1), (1, "b", "", 0)), ((1, ""),))
        odds = [odd for odd in reckoning.mutations(right) if isinstance(odd, tuple) and len(odd) == 4]
        odds += [right[:at] + (thing,) + right[at + 1:] for thing in reckoning.any_values() for at in range(4)]
        odds += [right[:at] + ((thing,),) + right[at + 1:] for thing in reckoning.any_values() for at in range(1, 4)]
        for odd in odds:
            wrong = reckoning.translator_complaint(*odd)
            if wrong:
                self.assertEqual(self.refused(*odd), wrong, odd)
            else:
                self.assertEqual(Translator(*odd).moves, odd[2])

    def test_equal(self):
        same = Translator(2, ((0, ""),), ((0, "a", "x", 0), (0, "a", "y", 1), (1, "b", "", 0)), ((0, ""),))
        self.assertTrue(ASIDE == same)
        for other in (Translator(3, ASIDE.begins, ASIDE.moves, ASIDE.ends), Translator(2, (), ASIDE.moves, ASIDE.ends),
                      Translator(2, ASIDE.begins, (), ASIDE.ends), Translator(2, ASIDE.begins, ASIDE.moves, ()),
                      *reckoning.any_values()):
            self.assertFalse(ASIDE == other)
            self.assertTrue(ASIDE != other)


class ReadingTest(unittest.TestCase):

    def test_text(self):
        self.assertEqual(str(ASIDE), "translator 2\nbegin 0 -\nmove 0 a x 0\nmove 0 a y 1\nmove 1 b - 0\nend 0 -")
        self.assertEqual(str(EMPTY), "translator 0")

    def test_read_gives_the_translator_back(self):
        for one in [ASIDE, LATE, EMPTY, MANY, BIG] + reckoning.random_translators(31, 60):
            self.assertEqual(Translator.read(str(one)), one)
        self.assertEqual(Translator.read(text="translator 0"), EMPTY)

    def place(self, thing):
        with self.assertRaises(BadText) as caught:
            Translator.read(thing)
        return caught.exception.place

    def test_places(self):
        for thing in (None, True, 1, [], ("translator 0",), ASIDE, b"translator 0"):
            self.assertEqual(self.place(thing), -1)
        for text in ("", "translator", "translator 1000", "translator -1", "translator 00", "translator 1 ",
                     "Translator 1", "translator  1", "format 1\nends -", "translator x\nbegin 5 -"):
            self.assertEqual(self.place(text), 0, text)
        head = "translator 12\nbegin 2 -\nbegin 10 x\n"
        for line in ("", "begin 10 x", "begin 10 -", "begin 9 z", "begin 12 -", "begin 11", "begin 11 ", "begin 11 X",
                     "begin 11 -x", "begin 11 x ", "begin 011 x", "move 0 a x", "move 0 a x 12", "move 12 a x 0",
                     "move 0 - x 0", "move 0 aa x 0", "move 0 a  0", "end 0", "end 12 -", "other 0 -", "translator 12"):
            self.assertEqual(self.place(head + line), 3, line)
        rest = head + "move 9 a x 0\n"
        for line in ("begin 11 x", "move 9 a x 0", "move 2 z x 0", "move 9 a - 0", "end 0 x\nmove 10 a x 0",
                     "end 0 x\nbegin 11 -", "end 5 x\nend 5 x", "end 5 x\nend 3 z", "end 5 x\n"):
            self.assertEqual(self.place(rest + line), 4 + line.count("\n"), line)
        # States are compared as integers.
        self.assertEqual(Translator.read(rest + "move 10 a x 0\nmove 10 a x 2\nmove 10 a x 10").moves[-1],
                         (10, "a", "x", 10))

    def test_changed_texts(self):
        for odd in reckoning.mutations(str(LATE)):
            try:
                self.assertEqual(str(Translator.read(odd)), odd)
            except BadText as error:
                lines = odd.split("\n") if isinstance(odd, str) else []
                self.assertTrue(0 <= error.place < len(lines) if isinstance(odd, str) else error.place == -1)
                if error.place > 0:
                    Translator.read("\n".join(lines[:error.place]))
                    self.assertEqual(self.place("\n".join(lines[:error.place + 1])), error.place)


class RunsTest(unittest.TestCase):

    def test_answers_and_domain(self):
        self.assertEqual(ASIDE.answers("aab"), ("xy",))
        self.assertEqual(ASIDE.answers(text="b"), ())
        self.assertEqual(ASIDE.domain(), Format(2, ((0, "a", 1), (1, "a", 1), (1, "b", 0)), (0, 1)))
        self.assertEqual(MANY.answers(""), ("x", "xx", "y", "yy"))
        for one in reckoning.random_translators(33, 150) + [ASIDE, LATE, MANY, FORKED, EMPTY]:
            domain = one.domain()
            self.assertEqual(domain, domain.least())
            for text in reckoning.all_texts("abc", 4):
                found = reckoning.answers(one, text)
                self.assertEqual(one.answers(text), found)
                self.assertIs(text in one, found != ())
                self.assertIs(text in domain, found != ())

    def test_answers_of_long_texts_with_many_runs(self):
        # Each text has two to the number of its letters runs, but one answer.
        sure = Translator(2, ((0, ""),), ((0, "a", "x", 0), (0, "a", "x", 1), (1, "a", "x", 0), (1, "a", "x", 1)),
                          ((0, ""), (1, "")))
        self.assertEqual(sure.answers("a" * 60), ("x" * 60,))
        self.assertEqual(len(FORKED.answers("abababa")), 8)

    def test_in_of_any_value(self):
        every = Translator(1, ((0, ""),), ((0, "a", "", 0), (0, "b", "", 0)), ((0, ""),))
        for thing in reckoning.any_values():
            self.assertIs(thing in every, isinstance(thing, str) and set(thing) <= {"a", "b"})
        self.assertFalse("A" in every)
        self.assertFalse("" in EMPTY)

    def test_useful(self):
        self.assertEqual(MANY.useful, (0, 1))
        self.assertEqual(EMPTY.useful, ())
        self.assertEqual(Translator(2, ((0, ""),), ((0, "a", "", 1),), ()).useful, ())
        one = Translator(4, ((1, ""),), ((0, "a", "", 3), (1, "a", "", 2), (1, "a", "", 3)), ((3, ""),))
        self.assertEqual(one.useful, (1, 3))
        for one in reckoning.random_translators(35, 100):
            self.assertEqual(one.useful, reckoning.useful_states(one))

    def test_partial_runs_and_runs(self):
        for one in reckoning.random_translators(37, 40) + [MANY]:
            for text in reckoning.all_texts("ab", 3):
                for run, last in reckoning.partial_runs(one, text):
                    self.assertIs(one.is_partial_run(run), True)
                    self.assertIs(one.is_run(run), False)
                    self.assertEqual(one.last_state(run), last)
                    self.assertEqual(one.reads(run), text)
                    self.assertEqual(one.writes(run), reckoning.written(one, run))
                    for end, (state, word) in enumerate(one.ends):
                        whole = run + (end,)
                        self.assertIs(one.is_run(whole), state == last)
                        self.assertIs(one.is_partial_run(whole), False)
                        if state == last:
                            self.assertEqual((one.last_state(whole), one.reads(whole)), (last, text))
                            self.assertEqual(one.writes(whole), reckoning.written(one, run) + word)
        self.assertEqual(ASIDE.writes((0, (0, 1))), "xy")

    def test_runs_of_any_value(self):
        runs = {text: reckoning.partial_runs(MANY, text) for text in reckoning.all_texts("ab", 4)}
        known = [run for rows in runs.values() for run, _ in rows]
        wholes = [run + (end,) for rows in runs.values() for run, last in rows
                  for end, (state, _) in enumerate(MANY.ends) if state == last]
        things = [*reckoning.mutations((0, (1, 3))), *reckoning.mutations((0, (1, 3), 0)), *reckoning.any_values()]
        things += [(0, (1, -2)), (-1, ()), (0, (), -1), (0, (0, 5)), (3, ()), (0, (), 3), (0, [0]), [0, ()]]
        for thing in things:
            kinds = reckoning.fits(thing, lambda part: type(part) is int, lambda part: type(part) is tuple and all(
                type(index) is int for index in part))
            self.assertIs(MANY.is_partial_run(thing), kinds and thing in known, thing)
            ended = type(thing) is tuple and len(thing) == 3 and type(thing[2]) is int and reckoning.fits(
                thing[:2], lambda part: type(part) is int, lambda part: type(part) is tuple and all(
                    type(index) is int for index in part))
            self.assertIs(MANY.is_run(thing), ended and thing in wholes, thing)
            self.assertIs(EMPTY.is_run(thing), False)
        self.assertIs(MANY.is_partial_run(thing=(0, (0,) * 3000)), True)


class OthersTest(unittest.TestCase):

    def test_joined_and_through(self):
        ones = reckoning.random_translators(41, 60)
        others = reckoning.random_translators(42, 60)
        nexts = reckoning.random_translators(43, 60, letters="xy", out="ab")
        for one, other, further in zip(ones + [MANY], others + [EMPTY], nexts + [EMPTY]):
            both, chain = one | other, one.through(further)
            for text in reckoning.all_texts("ab", 4):
                found = reckoning.answers(one, text)
                self.assertEqual(both.answers(text), tuple(sorted({*found, *reckoning.answers(other, text)})))
                self.assertEqual(chain.answers(text), tuple(sorted(
                    {word for middle in found for word in reckoning.answers(further, middle)})))

    def test_within_and_turned_round(self):
        ones = reckoning.random_translators(45, 60) + [ASIDE, LATE, MANY, EMPTY]
        forms = reckoning.random_formats(46, 64)
        for one, form in zip(ones, forms):
            inner, back = one.within(form), one.turned_round()
            for text in reckoning.all_texts("ab", 4):
                found = reckoning.answers(one, text)
                self.assertEqual(inner.answers(text), found if reckoning.has_text(form, text) else ())
                self.assertEqual(back.answers(text[::-1]), tuple(sorted(word[::-1] for word in found)))
        self.assertEqual(ASIDE.within(AB).answers("ab"), ("y",))
        self.assertEqual(ASIDE.within(form=AB).answers("a"), ())

    def test_trimmed(self):
        self.assertEqual(MANY.trimmed(), Translator(2, MANY.begins, MANY.moves[:4], MANY.ends))
        one = Translator(5, ((1, "x"), (2, ""), (3, "")), ((1, "a", "x", 3), (1, "b", "", 2), (3, "a", "y", 3),
                                                           (4, "a", "", 3)), ((0, "z"), (3, "yy")))
        self.assertEqual(one.trimmed(), Translator(2, ((0, "x"), (1, "")), ((0, "a", "x", 1), (1, "a", "y", 1)),
                                                   ((1, "yy"),)))
        self.assertEqual(EMPTY.trimmed(), EMPTY)
        self.assertEqual(Translator(3, ((0, ""),), (), ()).trimmed(), EMPTY)

    def test_renumbered(self):
        one = LATE.renumbered((2, 0, 1))
        self.assertEqual(one, Translator(3, ((0, ""), (2, "")), ((0, "a", "y", 0), (0, "c", "", 1), (2, "a", "x", 2),
                                                                 (2, "b", "", 1)), ((1, ""),)))
        self.assertEqual(one.renumbered(order=(1, 2, 0)), LATE)
        self.assertEqual(EMPTY.renumbered(()), EMPTY)

    def test_translators_stay_as_they_are(self):
        texts = str(ASIDE), str(LATE), str(AB)
        for _ in range(2):
            self.assertEqual(str(ASIDE | LATE), str(ASIDE | LATE))
            self.assertEqual(str(ASIDE.through(LATE)), str(ASIDE.through(LATE)))
            self.assertEqual(str(LATE.within(AB)), str(LATE.within(AB)))
        self.assertEqual((str(ASIDE), str(LATE), str(AB)), texts)

    def test_results_of_results(self):
        one = ASIDE
        for _ in range(3):
            one = one | one.turned_round().turned_round()
            one = one.within(Format.by_expression("((a | b) | c)*")).trimmed()
        for text in reckoning.all_texts("ab", 4):
            self.assertEqual(one.answers(text), ASIDE.answers(text))


if __name__ == "__main__":
    unittest.main()
