"""Writers: they read a text piece by piece, and hand on what is certain."""

from streamwrights.certainwords import certain_at
from streamwrights.certainwords import first_stand
from streamwrights.certainwords import shared_of
from streamwrights.certainwords import stand_behind
from streamwrights.errors import BadPiece
from streamwrights.errors import NoAnswer
from streamwrights.errors import NothingToUndo
from streamwrights.heldletters import letters_held
from streamwrights.readings import words_at
from streamwrights.same import refuse_unsure
from streamwrights.words import is_word


class Writer:
    """A writer by a sure translator; raises NotSure(paper) for another one."""

    def __init__(self, translator):
        refuse_unsure(translator)
        self.translator = translator
        self.shared = shared_of(translator)
        self.start = first_stand(translator, self.shared)
        # A row for each piece: the piece, and the stand behind it.
        self.rows = []

    def __len__(self):
        return len(self.rows)

    def stand(self):
        """For each useful state where the text that was taken leads the word that is written there."""
        return self.rows[-1][1] if self.rows != [] else self.start

    def take(self, piece):
        """Take a piece and hand on what is certain now and was not ahead of it; raises BadPiece(place)."""
        if not is_word(piece):
            raise BadPiece(-1)
        stand = self.stand()
        if stand == {}:
            raise BadPiece(0)
        ahead = certain_at(self.shared, stand)
        for place, letter in enumerate(piece):
            stand = stand_behind(self.translator, self.shared, stand, letter)
            if stand == {}:
                raise BadPiece(place)
        self.rows.append((piece, stand))
        return certain_at(self.shared, stand)[len(ahead):]

    def undo(self):
        """Take the last piece back; raises NothingToUndo()."""
        if self.rows == []:
            raise NothingToUndo()
        self.rows.pop()

    def end(self):
        """What the answer of the text that was taken has behind its certain word; raises NoAnswer(text)."""
        stand = self.stand()
        tails = words_at(self.translator)
        words = [stand[state] + word for state in stand for word in tails.get(state, ())]
        if words == []:
            raise NoAnswer(self.taken)
        return words[0][len(certain_at(self.shared, stand)):]

    @property
    def pieces(self):
        """The tuple of the pieces that were taken and not taken back."""
        return tuple([piece for piece, _ in self.rows])

    @property
    def taken(self):
        """The text that was taken."""
        return "".join([piece for piece, _ in self.rows])

    @property
    def handed(self):
        """The certain word of what was taken."""
        word = certain_at(self.shared, self.stand())
        return word if word is not None else ""

    @property
    def held(self):
        """How many letters the translator holds at what was taken."""
        many = letters_held(self.translator, self.taken)
        return many if many is not None else 0
