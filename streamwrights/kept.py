"""Kept texts: texts with a table that are changed anywhere."""

from streamwrights.cells import cell_of
from streamwrights.errors import BadPlace
from streamwrights.errors import BadWord
from streamwrights.errors import NothingToUndo
from streamwrights.pieces import left_marks
from streamwrights.pieces import right_marks
from streamwrights.values import is_index
from streamwrights.words import is_word


class Kept:
    """A kept text with the marks at all its places."""

    def __init__(self, table, text):
        self.table = table
        # The states behind all changes that are not taken back: (text, left marks, right marks) by places.
        self.states = [self.state_of(text)]

    def __len__(self):
        return len(self.states[-1][0])

    def state_of(self, text):
        """A text, and the left and right marks at its places."""
        left = 0 if self.table.lefts > 0 else None
        right = 0 if self.table.rights > 0 else None
        return text, left_marks(self.table, left, text), right_marks(self.table, text, right)

    @property
    def text_now(self):
        """The text as it stands."""
        return self.states[-1][0]

    @property
    def answer_now(self):
        """The answer of the text, or None."""
        return self.table.told(self.states[-1][0])

    @property
    def head_now(self):
        """What is written ahead of all letters, or None if there is no answer."""
        return self.table.first(self.states[-1][2][0]) if self.answer_now is not None else None

    @property
    def tail_now(self):
        """What is written behind all letters, or None if there is no answer."""
        return self.table.last(self.states[-1][1][-1]) if self.answer_now is not None else None

    def refuse_places(self, start, end):
        """Raise BadPlace(place) for the first of two values that is no place, or for an end below the start."""
        if not is_index(start, len(self) + 1):
            raise BadPlace(start)
        if not is_index(end, len(self) + 1) or end < start:
            raise BadPlace(end)

    def marks(self, place):
        """The left and the right mark at a place; raises BadPlace(place)."""
        if not is_index(place, len(self) + 1):
            raise BadPlace(place)
        return self.states[-1][1][place], self.states[-1][2][place]

    def stretch(self, start, end):
        """The word that is written for a stretch, None if there is no answer; raises BadPlace(place)."""
        self.refuse_places(start, end)
        if self.answer_now is None:
            return None
        text, lefts, rights = self.states[-1]
        return "".join([self.table.word(lefts[at], text[at], rights[at + 1]) for at in range(start, end)])

    def cell(self, start, end):
        """The cell of a stretch; raises BadPlace(place)."""
        self.refuse_places(start, end)
        return cell_of(self.table, self.text_now[start:end])

    def change(self, start, end, text):
        """Put a text in the place of a stretch, and tell how far marks at the front and at the back are as they were.

        Raises BadPlace(place), then BadWord(text).
        """
        self.refuse_places(start, end)
        if not is_word(text):
            raise BadWord(text)
        old, lefts, rights = self.states[-1]
        new = self.state_of(old[:start] + text + old[end:])
        self.states.append(new)
        front = [place for place in range(start + 1) if new[2][place] == rights[place]]
        back = [many for many in range(len(old) - end + 1) if new[1][-1 - many] == lefts[-1 - many]]
        return max(front, default=0), max(back, default=0)

    def undo(self):
        """Take the last change back that is not taken back; raises NothingToUndo()."""
        if len(self.states) == 1:
            raise NothingToUndo()
        self.states.pop()
