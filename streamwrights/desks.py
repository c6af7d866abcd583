"""Desks: streams by the lines of a house, which change to new editions on the way."""

from streamwrights.gates import refuse_unlike
from streamwrights.lines import whole
from streamwrights.writers import Writer


class Desk:
    """A desk of a house, made by its method desk alone."""

    def __init__(self, house, name):
        self.house = house
        self.name = name
        self.line = house.in_use(name)
        self.writer = Writer(whole(self.line))

    def take(self, piece):
        """Take a piece and hand on what is certain now and was not ahead of it; raises BadPiece(place)."""
        return self.writer.take(piece)

    def undo(self):
        """Take the last piece back; raises NothingToUndo()."""
        self.writer.undo()

    def end(self):
        """What the answer of the text that was taken has behind what was handed on; raises NoAnswer(text)."""
        return self.writer.end()

    def move_on(self):
        """Change to the edition in use; raises NoName(name), then OtherTexts(text) or NotAlike(text)."""
        line = self.house.in_use(self.name)
        refuse_unlike(self.line, line)
        writer = Writer(whole(line))
        for piece in self.writer.pieces:
            writer.take(piece)
        self.line = line
        self.writer = writer

    @property
    def taken(self):
        """The text that was taken."""
        return self.writer.taken

    @property
    def pieces(self):
        """The tuple of the pieces that were taken and not taken back."""
        return self.writer.pieces

    @property
    def handed(self):
        """All that was handed on, with what is certain ahead of the first piece."""
        return self.writer.handed
