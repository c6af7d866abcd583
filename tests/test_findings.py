import random
import unittest

from streamwrights.drifts import drift, held, room
from streamwrights.findings import finding_holds
from streamwrights.formats import Format
from streamwrights.gates import judge_gate
from streamwrights.lines import Line, judge_fits
from streamwrights.makers import filter_of, spelled
from streamwrights.marks import judge_alike
from streamwrights.once import certain, once
from streamwrights.paces import pace, pipe_paper
from streamwrights.same import parting_text
from streamwrights.sure import judge_sure
from streamwrights.tables import table_of
from tests import findingreckoning, linereckoning, reckoning
from tests.linereckoning import ANY
from tests.samples import AB, ASIDE, EMPTY, FORKED, LAST, LATE, MANY

SWAP = Line(ANY, (spelled((("a", "b"), ("b", "a"))),))
BACK = Line(ANY, SWAP.stages * 3)
STOP = Line(ANY, (SWAP.stages[0], spelled((("a", "x"),))))
SMALL = reckoning.random_translators(141, 12, most_states=2, most_moves=4, most_word=1)
SURES = reckoning.random_sures(142, 14, most_states=2, most_word=1)
LINES = linereckoning.small_lines(143, 14)


def loose_findings(one):
    """Right findings on any translator."""
    shown = str(one)
    for text in reckoning.all_texts("ab", 2):
        for word in reckoning.answers(one, text)[:2]:
            yield ("answer", shown, text, word)
        if reckoning.held(one, text) is not None:
            yield ("held", shown, text, held(one, text))
    yield (judge_sure(one)[0], shown) + judge_sure(one)[1:]
    yield ("room", shown, room(one))
    if drift(one) is not None:
        yield ("drift", shown) + drift(one)
    yield ("pace", shown, pace(one))
    for many in (0, 2):
        yield ("pipe", shown, many, pipe_paper(one, many))


def strict_findings(one, others):
    """Right findings on a sure translator."""
    shown = str(one)
    yield ("same", shown, str(one.turned_round().turned_round()))
    for other in others:
        text = parting_text(one, other)
        if text is not None:
            yield ("parted", shown, str(other), text)
    paper = once(one)
    if paper[0] == "once":
        yield ("once", shown, str(paper[1]))
    table = table_of(one)
    yield ("marks", shown, table.lefts, table.rights)
    for text in reckoning.all_texts("ab", 2):
        if certain(one, text) is not None:
            yield ("certain", shown, text, certain(one, text))
    for v in table.rests:
        for w in table.rests[:2] + table.rests[:1]:
            paper = judge_alike(one, v, w)
            yield ("alike", shown, v, w) + paper[1:] if paper[0] == "alike" else ("unlike", shown, v, w, paper)
    for left, letter, right in list(table.words)[:3]:
        yield ("cell", shown, table.beginnings[left], letter, table.rests[right], table.word(left, letter, right))


def line_findings(line, others):
    """Right findings on a line."""
    shown = str(line)
    paper = judge_fits(line)
    yield ("fits", shown) if paper[0] == "fits" else ("stops", shown) + paper[1:]
    for text in linereckoning.TEXTS[:7]:
        if linereckoning.comes_to(line, text) is not None:
            yield ("comes", shown, text, linereckoning.comes_to(line, text))
    for other in others:
        paper = judge_gate(line, other)
        yield ("lines", shown, str(other)) if paper[0] == "alike" else ("unlike lines", shown, str(other), paper[1])


def all_right():
    rng = random.Random(3)
    for one in SMALL + SURES + [ASIDE, LATE, LAST, EMPTY, MANY, FORKED]:
        yield from loose_findings(one)
    for one in SURES + [ASIDE, LATE, LAST, EMPTY]:
        yield from strict_findings(one, [ASIDE, rng.choice(SURES)])
    for line in LINES + [SWAP, STOP]:
        others = list(linereckoning.like_lines(rng, line))[:3] + [linereckoning.changed_line(rng, line) for _ in range(3)]
        yield from line_findings(line, [other for other in others if other is not None])


RIGHT = list(all_right())


class FindingsTest(unittest.TestCase):

    def test_right_findings_of_every_sort(self):
        seen = {}
        for thing in RIGHT:
            self.assertIs(finding_holds(thing), True, thing)
            self.assertIs(findingreckoning.holds(thing), True, thing)
            seen[thing[0]] = seen.get(thing[0], 0) + 1
        self.assertEqual(set(seen), set(findingreckoning.LENGTHS))
        self.assertTrue(min(seen.values()) > 2, seen)
        self.assertIs(finding_holds(thing=RIGHT[0]), True)

    def test_one_part_otherwise(self):
        rng = random.Random(5)
        seen = {True: 0, False: 0}
        for thing in rng.sample(RIGHT, 150):
            for at in range(len(thing)):
                odds = list(reckoning.mutations(thing[at])) if at != 1 else [None, 1, "", (), [thing[1]], ASIDE, thing[1] + "\n"]
                for odd in odds if len(odds) < 40 else rng.sample(odds, 40):
                    changed = thing[:at] + (odd,) + thing[at + 1:]
                    told = finding_holds(changed)
                    self.assertIs(told, findingreckoning.holds(changed), changed)
                    seen[told] += 1
        self.assertGreater(min(seen.values()), 200)

    def test_kinds_exchanged(self):
        rng = random.Random(6)
        for thing in rng.sample(RIGHT, 120):
            for kind in findingreckoning.LENGTHS:
                changed = (kind,) + thing[1:]
                self.assertIs(finding_holds(changed), findingreckoning.holds(changed), changed)

    def test_other_translators_and_lines(self):
        rng = random.Random(7)
        for thing in rng.sample(RIGHT, 150):
            for other in rng.sample(RIGHT, 6):
                changed = (thing[0], other[1]) + thing[2:]
                self.assertIs(finding_holds(changed), findingreckoning.holds(changed), changed)

    def test_parts_left_out_and_too_many(self):
        for thing in RIGHT[::7]:
            for changed in (thing[:-1], thing + (None,), thing + thing[-1:], list(thing), (thing,), thing[1:], [thing],
                            (thing[0], list(thing[1:])), thing[:1]):
                self.assertIs(finding_holds(changed), False)

    def test_what_is_not_sure(self):
        shown, other = str(FORKED), str(ASIDE)
        for thing in (("same", shown, shown), ("same", other, shown), ("same", shown, other), ("parted", shown, other, "b"),
                      ("parted", other, shown, "b"), ("once", shown, "reader 0 -"), ("certain", shown, "", ""),
                      ("marks", shown, 1, 1), ("marks", shown, 0, 0), ("cell", shown, "", "a", "", "x"),
                      ("alike", shown, "", "", ((0, 1),), ()), ("unlike", shown, "", "b", ("text", "b")),
                      ("fits", str(ANY) + "\nstage\n" + shown), ("comes", str(ANY) + "\nstage\n" + shown, "", ""),
                      ("lines", str(SWAP), str(ANY) + "\nstage\n" + shown),
                      ("unlike lines", str(SWAP), str(ANY) + "\nstage\n" + shown, "a"),
                      ("stops", str(ANY) + "\nstage\n" + shown, 0, "z")):
            self.assertIs(finding_holds(thing), False, thing)
        paper = judge_sure(FORKED)
        for thing in (("answer", shown, "b", "y"), ("two", shown) + paper[1:], ("held", shown, "b", 1),
                      ("room", shown, room(FORKED)), ("pace", shown, pace(FORKED)), ("pipe", shown, 5, pipe_paper(FORKED, 5))):
            self.assertIs(finding_holds(thing), True, thing)
        self.assertIs(finding_holds(("drift", shown) + drift(FORKED)), True)
        self.assertIs(finding_holds(("sure", shown, ())), False)

    def test_no_beginnings_no_rests_no_cells(self):
        shown = str(ASIDE)
        for thing in (("held", shown, "b", 0), ("held", shown, "b", None), ("certain", shown, "b", ""),
                      ("certain", shown, "b", None), ("certain", shown, "z", ""), ("alike", shown, "bb", "bb", (), ()),
                      ("unlike", shown, "bb", "", ("text", "a")), ("unlike", shown, "", "bb", ("text", "")),
                      ("cell", shown, "b", "a", "", "x"), ("cell", shown, "", "b", "", ""), ("cell", shown, "", "b", "", None),
                      ("cell", shown, "", "a", "bb", "x"), ("cell", shown, "", "ab", "", "y"), ("cell", shown, "", "", "", ""),
                      ("answer", shown, "b", None), ("parted", shown, str(AB), "a"), ("room", shown, None),
                      ("room", shown, True), ("held", shown, "a", True), ("marks", shown, True, 2), ("room", str(LATE), 0),
                      ("pipe", shown, True, pipe_paper(ASIDE, 1)), ("pipe", shown, -1, ("full", (0, ()))),
                      ("held", str(EMPTY), "", 0), ("certain", str(EMPTY), "", "")):
            self.assertIs(finding_holds(thing), False, thing)
        for thing in (("held", shown, "a", 1), ("room", shown, 1), ("marks", shown, 2, 2), ("room", str(LATE), None),
                      ("marks", str(EMPTY), 0, 0), ("room", str(EMPTY), 0), ("cell", shown, "aab", "a", "aba", "x"),
                      ("unlike", shown, "", "b", ("text", "")), ("sure", str(EMPTY), ())):
            self.assertIs(finding_holds(thing), True, thing)

    def test_papers_of_the_other_sort(self):
        # A paper that two rests are alike is none that they are not.
        paper = judge_alike(ASIDE, "a", "aa")
        self.assertEqual(paper[0], "alike")
        self.assertIs(finding_holds(("alike", str(ASIDE), "a", "aa") + paper[1:]), True)
        self.assertIs(finding_holds(("unlike", str(ASIDE), "a", "aa", paper)), False)
        self.assertIs(finding_holds(("unlike", str(ASIDE), "a", "aa", ("text", ""))), False)

    def test_lines(self):
        one, other, stop = str(SWAP), str(BACK), str(STOP)
        for thing in (("fits", one), ("comes", one, "ab", "ba"), ("lines", one, other), ("lines", stop, stop),
                      ("stops", stop, 1, "a"), ("unlike lines", one, stop, "a"), ("unlike lines", stop, one, "b"),
                      ("comes", stop, "b", "x")):
            self.assertIs(finding_holds(thing), True, thing)
        narrow = str(Line(AB, SWAP.stages))
        for thing in (("fits", stop), ("comes", one, "ab", "ab"), ("comes", stop, "a", None), ("lines", one, stop),
                      ("stops", stop, True, "a"), ("stops", stop, 0, "a"), ("stops", stop, 1, "z"), ("lines", one, narrow),
                      ("unlike lines", one, narrow, "a"), ("unlike lines", one, narrow, "ab"), ("unlike lines", one, other, "a"),
                      ("unlike lines", one, stop, ""), ("unlike lines", one, stop, "z"), ("unlike lines", one, stop, None),
                      ("comes", narrow, "a", "b"), ("fits", str(AB)), ("fits", str(ASIDE)), ("lines", one, str(AB)),
                      ("unlike lines", one, str(ASIDE), "a"), ("fits", one, one)):
            self.assertIs(finding_holds(thing), False, thing)
        # The texts of just one of both forms stop: the forms have unlike texts all the same.
        small = str(STOP.within(Format.by_expression("b*")))
        for thing in (("lines", stop, small), ("lines", small, stop), ("unlike lines", stop, small, "a"),
                      ("unlike lines", small, stop, "a")):
            self.assertIs(finding_holds(thing), False, thing)
        self.assertIs(finding_holds(("lines", small, small)), True)

    def test_any_values(self):
        for thing in reckoning.any_values() + ["fits", ("fits",), (ASIDE, ASIDE), ((), ()), ("sure", ASIDE, ()), b"fits"]:
            self.assertIs(finding_holds(thing), False)
            for kind, length in findingreckoning.LENGTHS.items():
                self.assertIs(finding_holds((kind,) + (thing,) * (length - 1)), False)
            for right in RIGHT[::23]:
                for at in range(len(right)):
                    changed = right[:at] + (thing,) + right[at + 1:]
                    told = finding_holds(changed)
                    if not isinstance(thing, str) or len(thing) < 9:
                        self.assertIs(told, findingreckoning.holds(changed), changed)
        self.assertIs(finding_holds(("answer", str(filter_of(Format.by_expression("a*"))), "a" * 2000, "a" * 2000)), True)


if __name__ == "__main__":
    unittest.main()
