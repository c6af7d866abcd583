"""Relays: a writer for each stage of a line, and lines the other way round."""

from streamwrights.back import judge_back
from streamwrights.errors import NoAnswer
from streamwrights.errors import Twins
from streamwrights.lines import Line
from streamwrights.lines import refuse_stopping
from streamwrights.lines import text_come_from
from streamwrights.writers import Writer


class Relay:
    """A relay by a line that fits; raises Stops(index, text) for another one."""

    def __init__(self, line):
        refuse_stopping(line)
        self.line = line
        self.has_texts = line.form.first_text() is not None
        self.writers = [Writer(line.stages[0].within(line.form))] + [Writer(stage) for stage in line.stages[1:]]
        if self.has_texts:
            self.pass_on(self.writers[0].handed, self.writers[1:])

    def pass_on(self, word, writers):
        """Let one writer behind the other take a word, or what is certain behind it at the very beginning."""
        for writer in writers:
            writer.take(word)
            word = writer.handed

    def take(self, piece):
        """Take a piece and hand on what comes through all writers; raises BadPiece(place)."""
        for writer in self.writers:
            piece = writer.take(piece)
        return piece

    def undo(self):
        """Take the last piece back; raises NothingToUndo()."""
        for writer in self.writers:
            writer.undo()

    def end(self):
        """What is still to be handed on if the text ends here; raises NoAnswer(text)."""
        # Each writer's end is taken by the next one: so the last one gets all that the line leads to it.
        word = self.line.comes_to(self.taken)
        if word is None:
            raise NoAnswer(self.taken)
        return word[len(self.handed):]

    @property
    def taken(self):
        """The text that was taken."""
        return self.writers[0].taken

    @property
    def handed(self):
        """All that was handed on."""
        return self.writers[-1].handed if self.has_texts else ""


def back_line(line):
    """The line the other way round; raises Stops(index, text), then Twins(text, other, answer)."""
    refuse_stopping(line)
    forms = line.forms()
    ways = []
    for index, stage in enumerate(line.stages):
        paper = judge_back(stage.within(forms[index]))
        if paper[0] == "twins":
            text = text_come_from(line, forms, index, paper[1])
            other = text_come_from(line, forms, index, paper[2])
            raise Twins(text, other, line.comes_to(text))
        ways.append(paper[1])
    return Line(forms[-1], tuple(ways[::-1]))
