import random
import unittest

from streamwrights.errors import (BadLine, BadName, BadPlace, BadWord, NoAnswer, NoName, NotAlike, NothingToRedo,
                                  NothingToUndo, OtherTexts, Stops, StreamError)
from streamwrights.formats import Format
from streamwrights.gates import are_alike_lines
from streamwrights.house import House
from streamwrights.kept import Kept
from streamwrights.lines import Line, whole
from streamwrights.makers import spelled
from streamwrights.tables import table_of
from tests import linereckoning, reckoning
from tests.linereckoning import ANY, EMPTY_FORM, TEXTS
from tests.samples import AB, ASIDE, EMPTY

BLUR = Line(ANY, (spelled((("a", "c"), ("b", "c"))),))
# The same answers, by two stages.
BLURRED = Line(ANY, (spelled((("a", "xy"), ("b", "z"))), spelled((("x", "c"), ("y", ""), ("z", "c")))))
SWAP = Line(ANY, (spelled((("a", "b"), ("b", "a"))),))
SHORT = Line(AB, SWAP.stages)
STOP = Line(ANY, (SWAP.stages[0], spelled((("a", "x"),))))
LINES = linereckoning.fitting_lines(111, 14)
LONGEST = "abcdefgh"


def names_refused():
    """Values that are no names that a house with the name one keeps."""
    deep = ["one"]
    for _ in range(18):
        deep = [deep]
    return reckoning.any_values() + ["on", "ones", "One", "one ", " one", "one\n", "-", b"one", ["one"], ("one",),
                                     {"one": 1}, {"one"}, deep, House(), BLUR, str(BLUR), Format(1, (), ())]


def seen(house):
    """All that can be seen of a house."""
    return (house.names, len(house), [house.editions(name) for name in house.names],
            [house.in_use(name) for name in house.names], house.log, [house.stands(at) for at in range(len(house.log))])


class Plain:
    """A house by plain lists: what was, step by step."""

    def __init__(self):
        self.now, self.past, self.future, self.log = {}, [], [], []

    def change(self, now):
        self.past.append(self.now)
        self.future = []
        self.now = now

    def seen(self):
        names = tuple(sorted(self.now))
        return (names, len(names), [tuple(self.now[name]) for name in names], [self.now[name][-1] for name in names],
                tuple(self.log), [name in self.now and linereckoning.comes_to(self.now[name][-1], text) == answer
                                  for name, text, answer in self.log])


class HouseTest(unittest.TestCase):

    def refused(self, kind, call, *parts):
        with self.assertRaises(kind) as caught:
            call(*parts)
        return caught.exception

    def test_bring_and_drop(self):
        house = House()
        self.assertEqual((house.names, len(house), house.log, "one" in house), ((), 0, (), False))
        self.assertIsNone(house.bring("one", BLUR))
        self.assertIsNone(house.bring(name=LONGEST, line=SWAP))
        self.assertEqual((house.names, len(house), "one" in house, LONGEST in house), ((LONGEST, "one"), 2, True, True))
        house.bring("one", BLURRED)
        house.bring("one", BLURRED)
        self.assertEqual(house.editions(name="one"), (BLUR, BLURRED, BLURRED))
        self.assertIs(house.in_use(name="one"), BLURRED)
        self.assertIsNone(house.drop(name="one"))
        self.assertEqual((house.names, "one" in house), ((LONGEST,), False))
        house.bring("one", SWAP)
        self.assertEqual(house.editions("one"), (SWAP,))

    def test_undo_and_redo(self):
        house = House()
        self.refused(NothingToUndo, house.undo)
        self.refused(NothingToRedo, house.redo)
        house.bring("one", BLUR)
        house.bring("one", BLURRED)
        house.drop("one")
        house.bring("one", SWAP)
        steps = []
        for _ in range(4):
            self.assertIsNone(house.undo())
            steps.append(house.editions("one") if "one" in house else None)
        self.assertEqual(steps, [None, (BLUR, BLURRED), (BLUR,), None])
        self.refused(NothingToUndo, house.undo)
        for _ in range(3):
            self.assertIsNone(house.redo())
        self.assertEqual(len(house), 0)
        house.bring("two", SWAP)
        self.refused(NothingToRedo, house.redo)
        house.undo()
        self.assertEqual((len(house), house.redo(), house.names), (0, None, ("two",)))

    def test_only_bring_and_drop_are_changes(self):
        house = House()
        house.bring("one", BLUR)
        house.bring("one", BLURRED)
        house.undo()
        house.lead("one", "ab")
        house.desk("one").take("a")
        house.kept("one", "a").change(0, 0, "b")
        house.come_from("one", "c")
        house.tried(lambda inner: inner.drop("one"))
        house.tried(lambda inner: inner.undo())
        for call in (lambda: house.bring("one", SWAP), lambda: house.bring("one", STOP), lambda: house.bring("", BLUR),
                     lambda: house.drop("two"), lambda: house.lead("one", "z")):
            self.assertRaises(StreamError, call)
        self.assertEqual((house.editions("one"), len(house.log)), ((BLUR,), 1))
        house.redo()
        self.assertEqual((house.editions("one"), len(house.log)), ((BLUR, BLURRED), 1))
        self.refused(NothingToRedo, house.redo)
        house.undo()
        house.undo()
        self.assertEqual((len(house), len(house.log), house.stands(0)), (0, 1, False))
        self.refused(NothingToUndo, house.undo)

    def test_errors_of_bring_in_their_order(self):
        house = House()
        house.bring("one", BLUR)
        before = seen(house)
        for name in ["", "abcdefghi", "A", "a b", "a1", "one\n"] + [thing for thing in names_refused()
                                                                    if not reckoning.is_word(thing) or len(thing) > 8]:
            for line in (BLUR, None, STOP):
                self.assertIs(self.refused(BadName, house.bring, name, line).name, name)
        for thing in reckoning.any_values() + [str(BLUR), (BLUR,), [BLUR], ANY, BLUR.stages, House]:
            for name in ("one", "new"):
                self.assertEqual(self.refused(BadLine, house.bring, name, thing).part, "line")
        for name in ("one", "new"):
            error = self.refused(Stops, house.bring, name, STOP)
            self.assertTrue(linereckoning.is_stop(STOP, ("stops", error.index, error.text)))
            error = self.refused(Stops, house.bring, name, Line(AB, STOP.stages))
            self.assertEqual(error.index, 1)
        self.assertEqual(self.refused(OtherTexts, house.bring, "one", SHORT).text, "a")
        error = self.refused(NotAlike, house.bring, "one", SWAP)
        self.assertNotEqual(BLUR.comes_to(error.text), SWAP.comes_to(error.text))
        self.assertIn(error.text, ANY)
        self.assertEqual(seen(house), before)
        house.undo()
        self.refused(NothingToUndo, house.undo)

    def test_names_that_are_not_kept(self):
        house = House()
        house.bring("one", BLUR)
        house.bring("gone", BLUR)
        house.drop("gone")
        before = seen(house)
        for name in names_refused() + ["gone", "new"]:
            if name == "one" and isinstance(name, str):
                continue
            self.assertIs(name in house, False)
            calls = [(house.editions,), (house.in_use,), (house.drop,), (house.desk,), (house.lead, "a"),
                     (house.lead, None), (house.come_from, "c"), (house.kept, "a")]
            for call, *more in calls:
                self.assertIs(self.refused(NoName, call, name, *more).name, name)
        self.assertEqual(seen(house), before)

    def test_leading_and_the_log(self):
        house = House()
        house.bring("one", Line(AB, SWAP.stages))
        self.assertEqual(house.lead(name="one", text="ab"), "ba")
        self.assertEqual((house.lead("one", ""), house.lead("one", "ab")), ("", "ba"))
        self.assertEqual(house.log, (("one", "ab", "ba"), ("one", "", ""), ("one", "ab", "ba")))
        for thing in reckoning.any_values() + ["A", "a b", "-", b"ab", ["ab"], "ab\n"]:
            if not reckoning.is_word(thing):
                self.assertIs(self.refused(BadWord, house.lead, "one", thing).text, thing)
        for text in ("a", "ba", "z", "abc", "ab" * 500 + "a"):
            self.assertEqual(self.refused(NoAnswer, house.lead, "one", text).text, text)
        self.assertEqual(len(house.log), 3)
        for thing in reckoning.any_values() + [3, -3, "0", None, (0,), [0], 10 ** 30]:
            if not reckoning.is_number(thing, 3):
                self.assertIs(self.refused(BadPlace, house.stands, thing).place, thing)
        self.assertEqual([house.stands(index=at) for at in range(3)], [True] * 3)
        house.drop("one")
        self.assertEqual([house.stands(at) for at in range(3)], [False] * 3)
        house.bring("one", Line(AB, BLUR.stages))
        self.assertEqual([house.stands(at) for at in range(3)], [False, True, False])
        house.undo()
        house.undo()
        self.assertEqual([house.stands(at) for at in range(3)], [True] * 3)
        house.undo()
        self.assertEqual((len(house.log), [house.stands(at) for at in range(3)]), (3, [False] * 3))
        # An entry stands just by what its text comes to now, also where it comes to nothing.
        house.bring("one", Line(Format.by_expression("1"), SWAP.stages))
        self.assertEqual([house.stands(at) for at in range(3)], [False, True, False])

    def test_come_from(self):
        house = House()
        for number, line in enumerate(LINES):
            house.bring("abcdefghijklmn"[number], line)
        house.bring("blur", BLURRED)
        house.bring("none", Line(EMPTY_FORM, (ASIDE,)))
        self.assertEqual(house.come_from(name="blur", answer="cc"), Format.by_expression("((a | b) (a | b))"))
        self.assertEqual(house.come_from("blur", "d"), EMPTY_FORM)
        self.assertEqual(house.come_from("none", ""), EMPTY_FORM)
        for number, line in enumerate(LINES):
            for word in TEXTS[:15]:
                form = house.come_from("abcdefghijklmn"[number], word)
                self.assertEqual(form, form.least())
                self.assertEqual([text for text in TEXTS if text in form],
                                 [text for text in TEXTS if linereckoning.comes_to(line, text) == word])

    def test_kept_texts(self):
        house = House()
        house.bring("one", BLUR)
        kept = house.kept(name="one", text="ab")
        self.assertIsInstance(kept, Kept)
        self.assertEqual((kept.text_now, kept.answer_now, kept.table), ("ab", "cc", table_of(whole(BLUR))))
        house.drop("one")
        kept.change(1, 1, "a")
        self.assertEqual(kept.answer_now, "ccc")

    def test_editions_answer_alike(self):
        rng = random.Random(6)
        many = 0
        for line in LINES:
            house = House()
            house.bring("one", line)
            for other in list(linereckoning.like_lines(rng, line)):
                house.bring("one", other)
                many += 1
            for _ in range(5):
                other = linereckoning.changed_line(rng, line)
                if other is not None:
                    try:
                        house.bring("one", other)
                    except (Stops, NotAlike):
                        pass
            first = house.editions("one")[0]
            for edition in house.editions("one"):
                self.assertIs(are_alike_lines(first, edition), True)
                for text in TEXTS:
                    self.assertEqual(edition.comes_to(text), first.comes_to(text))
        self.assertGreater(many, 60)


class TriedTest(unittest.TestCase):

    def test_what_a_function_does_is_taken_back(self):
        house = House()
        house.bring("one", BLUR)
        house.bring("one", BLURRED)
        house.undo()
        house.lead("one", "a")
        before = seen(house)
        out = []

        def action(inner):
            self.assertIs(inner, house)
            inner.bring("two", SWAP)
            inner.lead("two", "a")
            inner.drop("one")
            out.append(seen(inner))
            out.append(inner.desk("two"))
            out.append(inner.kept("two", "ab"))
            self.assertRaises(NothingToRedo, inner.redo)
            for _ in range(3):
                inner.undo()
            self.assertRaises(NothingToUndo, inner.undo)
            return out

        self.assertIs(house.tried(action=action), out)
        self.assertEqual(out[0][0:2] + out[0][4:], (("two",), 1, (("one", "a", "c"), ("two", "a", "b")), [False, True]))
        self.assertEqual(seen(house), before)
        # Desks and kept texts go on.
        self.assertEqual((out[1].take("ab"), out[2].answer_now), ("ba", "ba"))
        house.redo()
        self.assertEqual(house.editions("one"), (BLUR, BLURRED))
        house.undo()
        house.undo()
        self.assertRaises(NothingToUndo, house.undo)

    def test_errors_go_on(self):
        house = House()
        house.bring("one", BLUR)
        before = seen(house)

        class Odd(Exception):
            pass

        for wrong in (Odd("x"), NoName("x"), KeyError("x"), KeyboardInterrupt()):

            def action(inner):
                inner.drop("one")
                inner.bring("two", SWAP)
                inner.lead("two", "a")
                raise wrong

            with self.assertRaises(type(wrong)) as caught:
                house.tried(action)
            self.assertIs(caught.exception, wrong)
            self.assertEqual(seen(house), before)
        self.assertRaises(NoName, house.tried, lambda inner: inner.in_use("two"))
        self.assertRaises(NoName, house.tried, lambda inner: (inner.drop("one"), inner.drop("one")))
        self.assertEqual(seen(house), before)

    def test_tried_within(self):
        house = House()
        house.bring("one", BLUR)

        def inner_action(inner):
            inner.drop("one")
            inner.bring("two", SWAP)
            return inner.names

        def action(inner):
            inner.bring("three", SWAP)
            first = inner.tried(inner_action)
            second = inner.names
            inner.undo()
            inner.tried(lambda again: again.bring("four", BLUR))
            inner.redo()
            return first, second, inner.names

        before = seen(house)
        self.assertEqual(house.tried(action), (("three", "two"), ("one", "three"), ("one", "three")))
        self.assertEqual(seen(house), before)
        self.assertRaises(NothingToRedo, house.redo)

    def test_what_is_returned(self):
        house = House()
        for thing in reckoning.any_values():
            self.assertIs(house.tried(lambda inner, thing=thing: thing), thing)


class DaysTest(unittest.TestCase):

    def test_days_of_deeds(self):
        rng = random.Random(14)
        families = []
        for line in LINES[:6] + [BLUR, SWAP]:
            families.append(list(linereckoning.like_lines(rng, line)))
        for day in range(25):
            house, plain = House(), Plain()
            for _ in range(60):
                self.deed(rng, families, house, plain)
                self.assertEqual(seen(house), plain.seen())
                if rng.random() < 0.1:
                    self.tried_deeds(rng, families, house, plain, 1 + day % 2)

    def tried_deeds(self, rng, families, house, plain, depth):
        saved = plain.now, list(plain.past), list(plain.future), list(plain.log)
        wrong = rng.random() < 0.4

        def action(inner):
            for _ in range(6):
                self.deed(rng, families, inner, plain)
                self.assertEqual(seen(inner), plain.seen())
            if depth:
                self.tried_deeds(rng, families, inner, plain, depth - 1)
            if wrong:
                raise NotAlike("z")
            return depth

        if wrong:
            self.assertRaises(NotAlike, house.tried, action)
        else:
            self.assertEqual(house.tried(action), depth)
        plain.now, plain.past, plain.future, plain.log = saved
        self.assertEqual(seen(house), plain.seen())

    def deed(self, rng, families, house, plain):
        kind = rng.randrange(8)
        name = rng.choice(["one", "two", "three"])
        if kind < 3:
            family = rng.choice(families)
            line = rng.choice(family)
            old = plain.now.get(name)
            same = old is None or any(old[-1] is other for other in family)
            if not same and not (old[-1].form.is_same(line.form) and are_alike_lines(old[-1], line)):
                kinds = NotAlike if old[-1].form.is_same(line.form) else OtherTexts
                self.assertRaises(kinds, house.bring, name, line)
            else:
                house.bring(name, line)
                plain.change({**plain.now, name: (old or []) + [line]})
        elif kind == 3:
            if name in plain.now:
                house.drop(name)
                plain.change({key: lines for key, lines in plain.now.items() if key != name})
            else:
                self.assertRaises(NoName, house.drop, name)
        elif kind == 4:
            self.step(house.undo, NothingToUndo, plain, plain.past, plain.future)
        elif kind == 5:
            self.step(house.redo, NothingToRedo, plain, plain.future, plain.past)
        else:
            text = rng.choice(TEXTS[:20])
            word = linereckoning.comes_to(plain.now[name][-1], text) if name in plain.now else None
            if word is None:
                self.assertRaises(NoAnswer if name in plain.now else NoName, house.lead, name, text)
            else:
                self.assertEqual(house.lead(name, text), word)
                plain.log.append((name, text, word))

    def step(self, call, kind, plain, taken, put):
        if not taken:
            self.assertRaises(kind, call)
            return
        call()
        put.append(plain.now)
        plain.now = taken.pop()

    def test_sixty_changes(self):
        house = House()
        for at in range(60):
            if at % 6 == 5:
                house.drop("one")
            else:
                house.bring("one", [BLUR, BLURRED][at % 2])
        for at in range(60):
            house.undo()
        self.assertRaises(NothingToUndo, house.undo)
        for at in range(60):
            house.redo()
        self.assertRaises(NothingToRedo, house.redo)
        self.assertEqual(len(house), 0)
        house.undo()
        self.assertEqual(house.editions("one"), (BLUR, BLURRED, BLUR, BLURRED, BLUR))

    def test_empty_stages_and_forms(self):
        house = House()
        line = Line(EMPTY_FORM, (EMPTY,))
        house.bring("one", line)
        house.bring("one", Line(Format(2, ((0, "a", 1),), ()), (ASIDE, EMPTY)))
        self.assertEqual(len(house.editions("one")), 2)
        self.assertRaises(NoAnswer, house.lead, "one", "")


if __name__ == "__main__":
    unittest.main()
