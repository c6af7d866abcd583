"""Cells: what pieces of texts do by a table, whatever stands around them."""

from streamwrights.errors import OtherTable
from streamwrights.pieces import is_steady_map
from streamwrights.pieces import joined_map
from streamwrights.pieces import map_of_text
from streamwrights.pieces import words_between


class Cell:
    """The cell of a piece by a table, made by cell_of and by joining alone.

    The words are a dict: they have a word for each left mark ahead and each right mark behind that go with the piece.
    """

    def __init__(self, table, length, both, words):
        self.table = table
        self.length = length
        self.ons = both[0]
        self.backs = both[1]
        self.words = words

    def __len__(self):
        return len(range(self.length))

    def __eq__(self, other):
        return (isinstance(other, Cell) and self.table == other.table and self.ons == other.ons
                and self.backs == other.backs and self.words == other.words)

    def __add__(self, other):
        if not self.table == other.table:
            raise OtherTable()
        both = joined_map((self.ons, self.backs), (other.ons, other.backs))
        pairs = [(left, right) for left in range(len(self.ons)) for right in range(len(other.backs))
                 if (left, other.backs[right]) in self.words and (self.ons[left], right) in other.words]
        words = {(left, right): self.words[left, other.backs[right]] + other.words[self.ons[left], right]
                 for left, right in pairs}
        return Cell(self.table, self.length + other.length, both, words)

    def left_behind(self, left):
        """The left mark behind the piece, or None."""
        return self.ons[left]

    def right_ahead(self, right):
        """The right mark ahead of the piece, or None."""
        return self.backs[right]

    def written(self, left, right):
        """The word of the piece between two marks, or None."""
        return self.words.get((left, right))

    @property
    def both_maps(self):
        """The map: for all left marks those behind the piece, for all right marks those ahead of it."""
        return self.ons, self.backs

    @property
    def is_steady(self):
        """Whether the cell joined to itself has the same map."""
        return is_steady_map((self.ons, self.backs))


def cell_of(table, text):
    """The cell of a piece by a table."""
    return Cell(table, len(text), map_of_text(table, text), words_between(table, text))


def answer_of(cell):
    """The answer of a text with a cell, or None."""
    table = cell.table
    if table.rights == 0:
        return None
    parts = [table.first(cell.right_ahead(0)), cell.written(0, 0), table.last(cell.left_behind(0))]
    return "".join(parts) if None not in parts else None


def maps(table):
    """The pairs (text, map) for all maps of texts of one letter or more, by their first texts."""
    letters = [(letter, map_of_text(table, letter)) for letter in table.letters]
    found = []
    known = {}
    for letter, one in letters:
        if one not in known:
            known[one] = True
            found.append((letter, one))
    at = 0
    while at < len(found):
        text, whole = found[at]
        for letter, one in letters:
            further = joined_map(whole, one)
            if further not in known:
                known[further] = True
                found.append((text + letter, further))
        at += 1
    return tuple(found)
