"""The whole program: all examples of the document, what the guarantee says over all parts, and the interface."""

import ast
import importlib
import inspect
import os
import random
import unittest

from streamwrights import errors
from streamwrights.back import (before, behind, change_places, first_source, is_one_to_one, judge_back, keeps, lost,
                                settles, sources, turned, unlike_order, unsettled, way_back)
from streamwrights.cells import answer_of, cell_of, maps
from streamwrights.drifts import delays, drift_holds, held, room, text_beyond
from streamwrights.errors import BadPiece, Drifts, Silent, Twins
from streamwrights.flat import flat_tree, height, is_flat, least_height
from streamwrights.formatpapers import compared, compared_holds
from streamwrights.formats import Format
from streamwrights.gates import are_alike_lines, gate_holds, judge_gate
from streamwrights.house import House
from streamwrights.kept import Kept
from streamwrights.lines import Line, fits_holds, judge_fits, whole
from streamwrights.makers import filter_of, spelled
from streamwrights.markings import Marking, judge_marking, least_marking, marking_holds
from streamwrights.marks import alike_holds, judge_alike
from streamwrights.once import is_once, once_holds, reader_of
from streamwrights.paces import leads, pace, pace_holds, pipe_holds, pipe_paper, pipe_room, waiting
from streamwrights.readers import Reader
from streamwrights.relays import Relay, back_line
from streamwrights.same import are_same, parting_text
from streamwrights.sure import answer, is_sure, judge_sure, sure_holds
from streamwrights.tables import table_of
from streamwrights.translators import Translator
from streamwrights.writers import Writer
from tests import linereckoning
from tests.linereckoning import TEXTS
from tests.samples import AB, ASIDE, LAST, LATE

DOUBLE = Translator(1, ((0, ""),), ((0, "a", "aa", 0), (0, "b", "b", 0)), ((0, ""),))
DROP = Translator(1, ((0, ""),), ((0, "a", "a", 0), (0, "b", "", 0)), ((0, ""),))
BLUR = Translator(1, ((0, ""),), ((0, "a", "c", 0), (0, "b", "c", 0)), ((0, ""),))
LINES = linereckoning.fitting_lines(151, 40)

# Module, class or None, and names with their parameters, as the interface lists them.
INTERFACE = """
words: is_word(thing) common_prefix(*words) delay(one,other)
formats.Format: __init__(size,moves,ends) __len__() __eq__(other) __contains__(x) led(text) first_text() texts(*,most)
formats.Format: many(length) is_endless() least() __and__(other) __or__(other) __sub__(other) backward() after(text)
formats.Format: is_same(other) is_within(other) parting(other) __str__() read(text) by_expression(text)
formatpapers: compared(one,other) compared_holds(one,other,thing)
translators.Translator: __init__(states,begins,moves,ends) __len__() __eq__(other) __str__() read(text) answers(text)
translators.Translator: __contains__(x) is_partial_run(thing) is_run(thing) last_state(run) reads(run) writes(run)
translators.Translator: useful domain() __or__(other) through(other) within(form) turned_round() trimmed()
translators.Translator: renumbered(order)
makers: filter_of(form) spelled(pairs)
sure: is_sure(translator) judge_sure(translator) sure_holds(translator,thing) answer(translator,text)
same: are_same(one,other) parting_text(one,other)
drifts: delays(translator) drift(translator) drift_holds(translator,thing) held(translator,text) room(translator)
drifts: text_beyond(translator,number)
readers.Reader: __init__(states,head,moves,tails) __len__() __eq__(other) __str__() read(text) told(text) led(text)
readers.Reader: as_translator() least() is_least
once: certain(translator,text) is_once(translator) reader_of(translator) once(translator) once_holds(translator,thing)
writers.Writer: __init__(translator) take(piece) undo() end() taken pieces handed held __len__()
marks: is_rest(translator,text) is_beginning(translator,text) completers(translator,text) are_alike(translator,v,w)
marks: judge_alike(translator,v,w) alike_holds(translator,v,w,thing)
tables: table_of(translator)
tables.Table: on(left,letter) back(letter,right) goes(left,right) word(left,letter,right) first(right) last(left)
tables.Table: left_mark(text) right_mark(text) told(text) __len__() __eq__(other)
markings.Marking: __init__(states,moves) told(text) __eq__(other)
markings: judge_marking(translator,marking) marking_holds(translator,marking,thing) is_enough(translator,marking)
markings: least_marking(translator)
cells: cell_of(table,text) answer_of(cell) maps(table)
cells.Cell: left_behind(left) right_ahead(right) written(left,right) both_maps is_steady __len__() __add__(other)
cells.Cell: __eq__(other)
flat: is_flat(cells,thing) height(tree) flat_tree(cells) least_height(cells)
kept.Kept: __init__(table,text) text_now answer_now head_now tail_now __len__() marks(place) stretch(start,end)
kept.Kept: cell(start,end) change(start,end,text) undo()
back: before(translator,form) behind(translator,form) image(translator) sources(translator,answer)
back: first_source(translator,answer) turned(translator) is_one_to_one(translator) judge_back(translator)
back: back_holds(translator,thing) way_back(translator) settles(translator) unsettled(translator)
back: change_places(one,other) unlike_order(one,other) keeps(translator,form) lost(translator,form)
lines.Line: __init__(form,stages) __len__() __eq__(other) __str__() read(text) traced(text) comes_to(text)
lines.Line: stops_at(text) forms() with_stage(index,stage) joined(index) within(form)
lines: is_fitting(line) judge_fits(line) fits_holds(line,thing) whole(line)
gates: are_alike_lines(one,other) judge_gate(one,other) gate_holds(one,other,thing) fault(one,other,text)
relays.Relay: __init__(line) take(piece) undo() end() taken handed
relays: back_line(line)
desks.Desk: take(piece) undo() end() taken pieces handed move_on()
house.House: __init__() names editions(name) in_use(name) __contains__(x) __len__() bring(name,line) drop(name) undo()
house.House: redo() tried(action) lead(name,text) log stands(index) come_from(name,answer) desk(name) kept(name,text)
paces: lead_of(translator,run) leads(translator) pace(translator) pace_holds(translator,thing) waiting(translator,run)
paces: pipe_room(translator) pipe_paper(translator,many) pipe_holds(translator,many,thing)
findings: finding_holds(thing)
console.Console: __init__() run(command)
"""
ERRORS = """BadFormat(part) BadText(place) BadTranslator(part) NotSure(paper) BadReader(part) Drifts(drift) BadPiece(place)
NoAnswer(text) NoRest(text) BadMarking(part) OtherTable() BadPlace(place) BadWord(text) Silent(text,loop,rest)
Twins(text,other,answer) BadLine(part) OtherTexts(text) OtherNumber() Stops(index,text) BadName(name) NoName(name)
NotAlike(text) NothingToUndo() NothingToRedo() InvalidCommand()"""


def signature(function, is_method):
    text = str(inspect.signature(function)).replace(" ", "")[1:-1]
    parts = [part for part in text.split(",") if part]
    return ",".join(parts[1:] if is_method and parts and parts[0] in ("self", "cls") else parts)


class InterfaceTest(unittest.TestCase):

    def test_all_names(self):
        for row in INTERFACE.strip().split("\n"):
            where, names = row.split(": ")
            module, _, kind = where.partition(".")
            module = importlib.import_module(f"streamwrights.{module}")
            held_by = vars(getattr(module, kind)) if kind else vars(module)
            for name in names.split(" "):
                word, _, rest = name.partition("(")
                self.assertIn(word, held_by, row)
                value = held_by[word]
                if not rest:
                    self.assertIsInstance(value, property, name)
                    continue
                value = value.__func__ if isinstance(value, classmethod) else value
                self.assertEqual(value.__module__, module.__name__, name)
                self.assertEqual(signature(value, bool(kind)), rest[:-1], row)

    def test_errors(self):
        for name in ERRORS.split():
            word, _, rest = name.partition("(")
            kind = getattr(errors, word)
            self.assertEqual((kind.__bases__, kind.__module__), ((errors.StreamError,), "streamwrights.errors"))
            parts = [part for part in rest[:-1].split(",") if part]
            for value in (None, (), [1], "x", {"a": 1}):
                error = kind(*[(value, part) for part in parts])
                self.assertEqual([getattr(error, part) for part in parts], [(value, part) for part in parts])
                self.assertEqual([getattr(kind(**{part: value}), part) for part in parts if len(parts) == 1],
                                 [value] * (len(parts) == 1))
        self.assertEqual(errors.StreamError.__bases__, (Exception,))
        kinds = [kind for kind in vars(errors).values() if isinstance(kind, type)]
        self.assertEqual(len(kinds), len(ERRORS.split()) + 1)

    def test_no_object_is_iterated_over(self):
        house = House()
        house.bring("a", Line(AB, (ASIDE.within(AB),)))
        table = table_of(ASIDE)
        things = [AB, ASIDE, reader_of(ASIDE), Writer(ASIDE), table, cell_of(table, "a"), Kept(table, "a"), house,
                  house.in_use("a"), house.desk("a"), Relay(house.in_use("a")), Marking(1, ())]
        for thing in things:
            self.assertRaises(TypeError, iter, thing)
            self.assertFalse(thing == 0 or thing == () or thing is None)

    def test_package_is_one_folder_of_plain_files(self):
        folder = os.path.dirname(importlib.import_module("streamwrights").__file__)
        files = [name for name in os.listdir(folder) if name != "__pycache__"]
        self.assertTrue(all(name.endswith(".py") for name in files) and "__init__.py" in files)
        for name in files:
            with open(os.path.join(folder, name), encoding="ascii") as file:
                ast.parse(file.read())


class ExamplesTest(unittest.TestCase):

    def test_part_1(self):
        form = Format.by_expression("(a b)*")
        self.assertEqual(form, Format(2, ((0, "a", 1), (1, "b", 0)), (0,)))
        self.assertEqual(str(form), "format 2\nends 0\nmove 0 a 1\nmove 1 b 0")
        self.assertEqual(Format.by_expression("(a | (a b))").parting(Format.by_expression("(a b)?")), "")
        paper = compared(Format.by_expression("a*"), Format(2, ((0, "a", 1), (1, "a", 0)), (0, 1)))
        self.assertEqual(paper, ("same", ((0, 0), (0, 1))))
        self.assertTrue(compared_holds(form, form, ("same", ((0, 0), (1, 1)))))
        row = Format.by_expression("(a b*)")
        self.assertEqual((row.backward(), row.after("a")), (Format.by_expression("(b* a)"), Format.by_expression("b*")))
        choice = Format.by_expression("(a | b)*")
        self.assertEqual((list(choice.texts(most=1)), choice.many(3)), (["", "a", "b"], 8))

    def test_part_2(self):
        self.assertEqual((ASIDE.answers("aab"), ASIDE.answers("b"), ASIDE.writes((0, (0, 1)))), (("xy",), (), "xy"))
        self.assertEqual(ASIDE.domain(), Format(2, ((0, "a", 1), (1, "a", 1), (1, "b", 0)), (0, 1)))
        self.assertEqual(judge_sure(ASIDE), ("sure", ((0, 0, "", ""), (1, 1, "", ""))))
        one = Translator(2, ((0, ""),), ((0, "a", "", 1), (0, "a", "x", 1), (1, "b", "", 1)), ((1, ""),))
        self.assertTrue(sure_holds(one, ("two", "a", "", "x")) and sure_holds(one, judge_sure(one)))
        one = Translator(3, ((0, ""),), ((0, "a", "", 1), (0, "a", "x", 2)), ((1, "x"), (2, "")))
        self.assertEqual(judge_sure(one), ("sure", ((0, 0, "", ""), (1, 1, "", ""), (1, 2, "", "x"), (2, 1, "x", ""),
                                                    (2, 2, "", ""))))
        self.assertEqual(spelled((("a", "xx"), ("b", ""))).answers("aba"), ("xxxx",))
        self.assertEqual(parting_text(ASIDE, filter_of(AB)), "a")
        self.assertEqual((ASIDE.within(AB).answers("ab"), ASIDE.within(AB).answers("a")), (("y",), ()))

    def test_part_3(self):
        self.assertEqual(delays(ASIDE), ((0, 0, "", ""), (0, 1, "x", "y"), (1, 0, "y", "x"), (1, 1, "", "")))
        self.assertEqual((room(ASIDE), held(ASIDE, "b")), (1, None))
        reader = Reader(2, "", ((0, "a", "", 1), (1, "a", "x", 1), (1, "b", "y", 0)), ((0, ""), (1, "x")))
        self.assertEqual(reader_of(ASIDE), reader)
        self.assertEqual(str(reader), "reader 2 -\nmove 0 a - 1\nmove 1 a x 1\nmove 1 b y 0\ntail 0 -\ntail 1 x")
        self.assertEqual((reader.led("aa"), reader.told("aab")), ((1, "x"), "xy"))
        self.assertTrue(drift_holds(LATE, ("", "a", (0, (0,)), (1, (2,)))))
        self.assertEqual((room(LATE), text_beyond(LATE, 1), is_once(LATE)), (None, "aa", False))
        writer = Writer(LATE)
        self.assertEqual((writer.take("aa"), writer.held), ("", 2))
        with self.assertRaises(BadPiece) as caught:
            writer.take("ca")
        self.assertEqual((caught.exception.place, writer.take("b")), (1, "xx"))
        writer = Writer(ASIDE)
        self.assertEqual(writer.take("aab"), "xy")
        writer.undo()
        writer.take("aa")
        self.assertEqual(writer.end(), "x")

    def test_part_4(self):
        table = table_of(ASIDE)
        self.assertEqual((table.rests, table.beginnings, table.back("b", 0), table.back("b", 1), table.on(0, "a"),
                          table.goes(0, 1)), (("", "b"), ("", "a"), 1, None, 1, False))
        self.assertEqual([table.word(*row) for row in ((0, "a", 0), (0, "a", 1), (1, "b", 0), (0, "b", 0))],
                         ["x", "y", "", None])
        self.assertEqual((table.first(0), table.first(1), table.last(1), len(table)), ("", None, "", 5))
        self.assertTrue(alike_holds(LATE, "b", "c", ("drift", "", "a", "", (0, (0,)), (1, (2,)))))
        self.assertTrue(alike_holds(LATE, "", "b", ("text", "")))
        self.assertTrue(alike_holds(LATE, "b", "ab", ("alike", ((0, 1), (2,)), ((0, 0, "", ""),))))
        self.assertEqual([judge_alike(LATE, *couple)[0] for couple in (("b", "c"), ("b", "ab"))], ["drift", "alike"])
        self.assertEqual((table_of(LATE).rests, table_of(LATE).beginnings), (("", "b", "c"), ("", "b")))
        self.assertEqual(least_marking(ASIDE), Marking(2, ((0, "a", 0), (0, "b", 1), (1, "a", 0))))
        one = Marking(1, ((0, "a", 0), (0, "b", 0)))
        self.assertTrue(marking_holds(ASIDE, one, ("short", "", "b", ("text", ""))))
        self.assertTrue(marking_holds(ASIDE, Marking(1, ((0, "a", 0),)), ("none", "b")))
        self.assertEqual((judge_marking(ASIDE, one)[0], judge_marking(ASIDE, least_marking(ASIDE))[0]), ("short", "enough"))

    def test_part_5(self):
        table = table_of(LAST)
        cell = cell_of(table, "aa")
        self.assertEqual((cell.both_maps, cell.is_steady), (((0, None), (None, 1, 2)), True))
        self.assertEqual([cell.written(0, right) for right in (1, 2, 0)], ["bb", "aa", None])
        self.assertEqual(cell_of(table, "b").both_maps, ((1, None), (1, None, None)))
        self.assertEqual((answer_of(cell + cell_of(table, "b")), answer_of(cell)), ("bb", None))
        self.assertEqual([text for text, one in maps(table)], ["a", "b", "c", "ba"])
        kept = Kept(table, "aab")
        self.assertEqual((kept.marks(0), kept.marks(3), kept.stretch(0, 1)), ((0, 1), (1, 0), "b"))
        self.assertEqual((kept.change(2, 3, "c"), kept.answer_now), ((0, 0), "aa"))
        self.assertEqual((kept.change(0, 0, "a"), kept.answer_now), ((0, 3), "aaa"))
        cells = (cell_of(table, "a"),) * 3
        self.assertTrue(is_flat(cells, ((), (), ())) and is_flat(cells, flat_tree(cells)))
        self.assertEqual((height(((), (), ())), least_height(cells)), (1, 1))

    def test_part_6(self):
        form = Format.by_expression("(a a b)*")
        self.assertEqual((behind(DOUBLE, AB), before(DOUBLE, form)), (form, AB))
        self.assertEqual((sources(DOUBLE, "aab"), first_source(DOUBLE, "aba")), (Format.by_expression("(a b)"), None))
        self.assertEqual((is_one_to_one(DOUBLE), way_back(DOUBLE).answers("aab"), way_back(DOUBLE).answers("a")),
                         (True, ("ab",), ()))
        self.assertRaises(Silent, turned, DROP)
        self.assertEqual((judge_back(DROP)[0], judge_back(BLUR)[0]), ("twins", "twins"))
        self.assertEqual(turned(BLUR).answers("cc"), ("aa", "ab", "ba", "bb"))
        self.assertEqual((settles(DROP), change_places(DOUBLE, DROP)), (True, True))
        self.assertNotEqual(unsettled(DOUBLE), None)
        self.assertNotEqual(unlike_order(DROP, BLUR), None)
        self.assertEqual((lost(DOUBLE, AB), keeps(DROP, Format.by_expression("a*"))), ("ab", True))

    def test_part_9(self):
        double = spelled((("a", "xx"), ("b", "")))
        self.assertEqual((leads(double), pipe_room(double)), ((None, None), None))
        self.assertTrue(pace_holds(double, ("rises", (0, ()), (0,))) and pace_holds(double, pace(double)))
        self.assertTrue(pipe_holds(double, 2, ("full", (0, (0, 0, 0)))) and pipe_holds(double, 2, pipe_paper(double, 2)))
        turn = Translator(2, ((0, "x"),), ((0, "a", "xx", 1), (1, "b", "", 0)), ((0, ""),))
        self.assertEqual((leads(turn), pipe_room(turn), pipe_paper(turn, 1)), ((1, 2), 2, ("full", (0, (0,)))))
        self.assertTrue(pace_holds(turn, ("between", ((0, 1, 1), (1, 2, 2)))))
        self.assertTrue(pipe_holds(turn, 2, ("pipe", 2, ((0, 1), (1, 2)))))
        slow = Translator(1, ((0, ""),), ((0, "a", "", 0), (0, "b", "xx", 0)), ((0, ""),))
        self.assertEqual(waiting(slow, (0, (0, 0, 1))), 1)


class GuaranteeTest(unittest.TestCase):

    def ways(self, house, name, text):
        """What a text comes to, on all ways that there are."""
        line = house.in_use(name)
        one = whole(line)
        table = table_of(one)
        yield line.comes_to(text)
        yield answer(one, text)
        yield table.told(text)
        yield house.kept(name, text).answer_now
        yield house.lead(name, text)
        for cut in (0, len(text) // 2, len(text)):
            pieces = (text[:cut], text[cut:])
            for stream in (Relay(line), house.desk(name), Writer(one)):
                out = [stream.handed] + [stream.take(piece) for piece in pieces]
                yield "".join(out) + stream.end()
            yield answer_of(cell_of(table, pieces[0]) + cell_of(table, pieces[1]))
        cells = [cell_of(table, letter) for letter in text]
        while len(cells) > 1:
            at = len(cells) // 3
            cells[at:at + 2] = [cells[at] + cells[at + 1]]
        if cells:
            yield answer_of(cells[0])
        if is_once(one):
            yield reader_of(one).told(text)

    def test_one_answer_on_all_ways_and_back_again(self):
        rng = random.Random(1)
        many = 0
        for line in LINES:
            house = House()
            house.bring("one", line)
            texts = [text for text in TEXTS if line.comes_to(text) is not None]
            for text in rng.sample(texts, min(len(texts), 5)):
                word = linereckoning.comes_to(line, text)
                self.assertEqual(set(self.ways(house, "one", text)), {word})
                self.assertIn(text, house.come_from("one", word))
                self.assertLessEqual((len(first_source(whole(line), word)), first_source(whole(line), word)),
                                     (len(text), text))
                try:
                    self.assertEqual(back_line(line).comes_to(word), text)
                    many += 1
                except Twins as error:
                    self.assertEqual({line.comes_to(error.text), line.comes_to(error.other)}, {error.answer})
        self.assertGreater(many, 20)

    def test_just_one_of_both_kinds(self):
        rng = random.Random(2)
        for line in LINES:
            one = whole(line)
            self.assertTrue(is_sure(one))
            try:
                self.assertTrue(once_holds(one, ("once", reader_of(one))))
                self.assertTrue(is_once(one))
            except Drifts as error:
                self.assertTrue(once_holds(one, ("drift",) + error.drift))
                self.assertFalse(is_once(one))
            self.assertTrue(fits_holds(line, judge_fits(line)))
            for other in linereckoning.like_lines(rng, line):
                self.assertTrue(are_alike_lines(line, other))
                self.assertEqual(table_of(whole(other)), table_of(one))
                self.assertTrue(are_same(whole(other), one))
            other = linereckoning.changed_line(rng, line)
            if other is not None:
                paper = judge_gate(line, other)
                self.assertTrue(gate_holds(line, other, paper))
                self.assertEqual(paper[0] == "alike", table_of(whole(other)) == table_of(one))
            least, greatest = leads(one)
            self.assertEqual(pace(one)[0] == "between", least is not None and greatest is not None)
            self.assertTrue(pace_holds(one, pace(one)))
            self.assertTrue(pipe_holds(one, 3, pipe_paper(one, 3)))


if __name__ == "__main__":
    unittest.main()
