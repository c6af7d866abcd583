"""Readers: they read a text once, letter by letter, and write at once what is certain."""

from streamwrights.errors import BadReader
from streamwrights.leastreaders import least_reader
from streamwrights.readerlines import read_reader
from streamwrights.readerlines import reader_lines
from streamwrights.translators import Translator
from streamwrights.translators import is_moves
from streamwrights.translators import is_pairs
from streamwrights.values import is_index
from streamwrights.words import is_word


def are_single(rows, length):
    """Whether no two items of an ascending tuple begin with the same parts, so many of them."""
    return all([rows[at - 1][:length] != rows[at][:length] for at in range(1, len(rows))])


class Reader:
    """A reader: its states are the integers from 0 to their number less 1, and it begins in state 0."""

    def __init__(self, states, head, moves, tails):
        if not is_index(states, 1000):
            raise BadReader("states")
        if not is_word(head) or (states == 0 and head != ""):
            raise BadReader("head")
        if not is_moves(moves, states) or not are_single(moves, 2):
            raise BadReader("moves")
        if not is_pairs(tails, states) or not are_single(tails, 1):
            raise BadReader("tails")
        self.states = states
        self.head = head
        self.moves = moves
        self.tails = tails
        self.steps = {(state, letter): (word, target) for state, letter, word, target in moves}
        self.tail_words = {state: word for state, word in tails}

    def __len__(self):
        return len(range(self.states))

    def __eq__(self, other):
        return (isinstance(other, Reader) and self.states == other.states and self.head == other.head
                and self.moves == other.moves and self.tails == other.tails)

    def __str__(self):
        return "\n".join(reader_lines(self.states, self.head, self.moves, self.tails))

    @classmethod
    def read(cls, text):
        """The reader with a text; raises BadText(place)."""
        states, head, moves, tails = read_reader(text)
        return cls(states, head, moves, tails)

    def told(self, text):
        """The answer of a text, or None."""
        reached = self.led(text)
        if reached is None or reached[0] not in self.tail_words:
            return None
        return reached[1] + self.tail_words[reached[0]]

    def led(self, text):
        """The state to which a text leads, and what is written by then, the head included; None if it leads to none."""
        if self.states == 0:
            return None
        state = 0
        words = [self.head]
        for letter in text:
            if (state, letter) not in self.steps:
                return None
            word, state = self.steps[state, letter]
            words.append(word)
        return state, "".join(words)

    def as_translator(self):
        """The translator with the states, the moves, and the tails as ends."""
        begins = ((0, self.head),) if self.states > 0 else ()
        return Translator(self.states, begins, self.moves, self.tails)

    def least(self):
        """The least reader with the same answers."""
        begins = ((0, self.head),) if self.states > 0 else ()
        parts = least_reader(self.states, begins, self.moves, self.tails)
        return Reader(*parts)

    @property
    def is_least(self):
        """Whether this is the least reader with its answers."""
        return self == self.least()
