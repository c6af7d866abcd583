"""Lines: a format and stages, sure translators one behind the other."""

from streamwrights.back import behind
from streamwrights.back import first_source
from streamwrights.chains import Chain
from streamwrights.errors import BadLine
from streamwrights.errors import BadPlace
from streamwrights.errors import Stops
from streamwrights.formats import Format
from streamwrights.linetexts import MOST_STAGES
from streamwrights.linetexts import read_line
from streamwrights.linetexts import text_of_line
from streamwrights.parts import filter_parts
from streamwrights.parts import parts_of
from streamwrights.same import refuse_unsure
from streamwrights.sides import read_side
from streamwrights.sure import answer
from streamwrights.textsearch import text_outside
from streamwrights.translators import Translator
from streamwrights.values import is_index
from streamwrights.values import is_tuple_of
from streamwrights.words import is_word


def are_stages(thing):
    """Whether any value is a tuple of one to four translators."""
    if not isinstance(thing, tuple) or not 1 <= len(thing) <= MOST_STAGES:
        return False
    return all([isinstance(stage, Translator) for stage in thing])


class Line:
    """A line: texts of its form are answered by one stage behind the other."""

    def __init__(self, form, stages):
        if not isinstance(form, Format):
            raise BadLine("form")
        if not are_stages(stages):
            raise BadLine("stages")
        for stage in stages:
            refuse_unsure(stage)
        self.form = form
        self.stages = stages

    def __len__(self):
        return len(self.stages)

    def __eq__(self, other):
        return isinstance(other, Line) and self.form == other.form and self.stages == other.stages

    def __str__(self):
        return str(text_of_line(self.form, self.stages))

    @classmethod
    def read(cls, text):
        """The line with a text; raises BadText(place), then BadFormat(move), then NotSure(paper)."""
        form, stages = read_line(text)
        return cls(Format(*form), tuple([Translator(*parts) for parts in stages]))

    def traced(self, text):
        """The text and all answers, stage by stage, up to the last one that there is; () if it is not of the form."""
        if text not in self.form:
            return ()
        words = [text]
        for stage in self.stages:
            word = answer(stage, words[-1])
            if word is None:
                return tuple(words)
            words.append(word)
        return tuple(words)

    def comes_to(self, text):
        """What a text comes to, or None."""
        words = self.traced(text)
        return words[-1] if len(words) > len(self.stages) else None

    def stops_at(self, text):
        """The index of the stage at which a text stops, or None."""
        words = self.traced(text)
        return len(words) - 1 if 0 < len(words) <= len(self.stages) else None

    def forms(self):
        """The least format of the form, and for each stage that of its answers of the texts of the one ahead."""
        found = [self.form.least()]
        for stage in self.stages:
            found.append(behind(stage, found[-1]))
        return tuple(found)

    def with_stage(self, index, stage):
        """The line with another stage at an index; raises BadPlace(index), then BadLine and NotSure as the class."""
        if not is_index(index, len(self.stages)):
            raise BadPlace(index)
        return Line(self.form, self.stages[:index] + (stage,) + self.stages[index + 1:])

    def joined(self, index):
        """The line with one stage in the place of the one at an index and the next one; raises BadPlace(index)."""
        if not is_index(index, len(self.stages) - 1):
            raise BadPlace(index)
        both = self.stages[index].through(self.stages[index + 1])
        return Line(self.form, self.stages[:index] + (both,) + self.stages[index + 2:])

    def within(self, form):
        """The line for just those texts that are texts of a format, too."""
        return Line(self.form & form, self.stages)


def stopping_text(line, forms):
    """The index of the first stage at which some text stops, and such a text; None if there is none."""
    for index, stage in enumerate(line.stages):
        form = forms[index]
        text = text_outside(([0], form.moves, form.ends), read_side(parts_of(stage)))
        if text is not None:
            return index, text_come_from(line, forms, index, text)
    return None


def text_come_from(line, forms, index, word):
    """A text of the form that comes to a word ahead of the stage with an index."""
    for at in range(index - 1, -1, -1):
        word = first_source(line.stages[at].within(forms[at]), word)
    return word


def judge_fits(line):
    """A paper whether a line fits."""
    forms = line.forms()
    found = stopping_text(line, forms)
    return ("fits", forms) if found is None else ("stops",) + found


def is_fitting(line):
    """Whether no text of the form stops."""
    return judge_fits(line)[0] == "fits"


def refuse_stopping(line):
    """Raise Stops(index, text) for a line that does not fit."""
    paper = judge_fits(line)
    if paper[0] == "stops":
        raise Stops(paper[1], paper[2])


def fits_holds(line, thing):
    """Whether any value is a paper whether a line fits."""
    if is_tuple_of(thing, 2) and thing[0] == "fits":
        return isinstance(thing[1], tuple) and judge_fits(line) == ("fits", thing[1])
    if not is_tuple_of(thing, 3) or not thing[0] == "stops" or not is_word(thing[2]):
        return False
    return is_index(thing[1], len(line)) and line.stops_at(thing[2]) == thing[1]


def whole(line):
    """A translator that leads each text of the form to what it comes to; all its states are useful."""
    form = line.form.least()
    parts = filter_parts(form.size, form.moves, form.ends)
    for stage in line.stages:
        parts = Chain(parts, parts_of(stage)).parts()
    return Translator(*parts)
