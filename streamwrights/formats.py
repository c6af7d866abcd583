"""Formats: which texts are right ones."""

from streamwrights.errors import BadFormat
from streamwrights.expressions import expression_machine
from streamwrights.formatlines import format_lines
from streamwrights.formatlines import read_format
from streamwrights.formatpairs import first_apart
from streamwrights.formatpairs import first_beyond
from streamwrights.formatpairs import joined_machine
from streamwrights.machines import end_layer
from streamwrights.machines import layer_ahead
from streamwrights.machines import least_machine
from streamwrights.machines import rows_of
from streamwrights.machines import texts_of_length
from streamwrights.subsets import least_of_sets
from streamwrights.values import is_ascending
from streamwrights.values import is_index
from streamwrights.values import is_integer
from streamwrights.values import is_letter
from streamwrights.values import is_tuple_of
from streamwrights.words import is_word


def is_move(thing, size):
    """Whether any value is a triple of a state, a letter and a state."""
    return is_tuple_of(thing, 3) and is_index(thing[0], size) and is_letter(thing[1]) and is_index(thing[2], size)


def wrong_moves(moves, size):
    """A tuple with the part for which moves are refused, an empty one if they are right."""
    if not isinstance(moves, tuple):
        return ("moves",)
    for move in moves:
        if not is_move(move, size):
            return (move,)
    if not is_ascending(moves):
        return ("order",)
    for at in range(1, len(moves)):
        if moves[at][:2] == moves[at - 1][:2]:
            return (moves[at],)
    return ()


def is_ends(thing, size):
    """Whether any value is an ascending tuple of states."""
    return isinstance(thing, tuple) and all([is_index(state, size) for state in thing]) and is_ascending(thing)


class Format:
    """A format: its states are the integers from 0 to its size less 1, and it begins in state 0."""

    def __init__(self, size, moves, ends):
        if not is_integer(size) or size < 1 or size > 999:
            raise BadFormat("size")
        wrong = wrong_moves(moves, size)
        if wrong != ():
            raise BadFormat(wrong[0])
        if not is_ends(ends, size):
            raise BadFormat("ends")
        self.size = size
        self.moves = moves
        self.ends = ends
        self.letters = "".join(sorted({letter for _, letter, _ in moves}))
        self.steps = {(state, letter): target for state, letter, target in moves}

    def __len__(self):
        return len(range(self.size))

    def __eq__(self, other):
        return (isinstance(other, Format) and self.size == other.size and self.moves == other.moves
                and self.ends == other.ends)

    def __contains__(self, x):
        return is_word(x) and self.led(x) in self.ends

    def __str__(self):
        return "\n".join(format_lines(self.size, self.moves, self.ends))

    def __and__(self, other):
        machine = joined_machine(self, other, "&")
        return Format(*machine)

    def __or__(self, other):
        machine = joined_machine(self, other, "|")
        return Format(*machine)

    def __sub__(self, other):
        machine = joined_machine(self, other, "-")
        return Format(*machine)

    @classmethod
    def read(cls, text):
        """The format with a text; raises BadText(place), then BadFormat(move)."""
        size, moves, ends = read_format(text)
        return cls(size, moves, ends)

    @classmethod
    def by_expression(cls, text):
        """The least format with the texts of an expression; raises BadText(place)."""
        size, moves, ends = expression_machine(text)
        return cls(size, moves, ends)

    def led(self, text):
        """The state to which a text is led, or None."""
        state = 0
        for letter in text:
            state = self.steps.get((state, letter))
            if state is None:
                return None
        return state

    def first_text(self):
        """The first text, or None."""
        finals = set(self.ends)
        rows = rows_of(self.size, self.moves)
        firsts = {0: ""}
        found = [0]
        at = 0
        while at < len(found):
            state = found[at]
            if state in finals:
                return firsts[state]
            for letter, target in rows[state]:
                if target not in firsts:
                    firsts[target] = firsts[state] + letter
                    found.append(target)
            at += 1
        return None

    def texts(self, *, most):
        """Yield the texts of at most so many letters, in order."""
        rows = rows_of(self.size, self.moves)
        layers = [end_layer(self.size, self.ends)]
        while len(layers) <= most + 1:
            yield from texts_of_length(rows, layers)
            layers = layers + [layer_ahead(rows, layers[-1])]

    def many(self, length):
        """How many texts of so many letters there are."""
        rows = rows_of(self.size, self.moves)
        counts = [1 if last else 0 for last in end_layer(self.size, self.ends)]
        for _ in range(length):
            counts = [sum([counts[target] for _, target in row]) for row in rows]
        return counts[0]

    def is_endless(self):
        """Whether there are infinitely many texts."""
        # All states of the least format are useful, so there are infinitely many texts exactly if texts can be led
        # on for as many letters as it has states: then some state is met twice.
        size, moves, _ = least_machine(self.size, self.moves, self.ends, 0)
        rows = rows_of(size, moves)
        states = [0]
        for _ in range(size):
            states = sorted({target for state in states for _, target in rows[state]})
        return states != []

    def least(self):
        """The least format with the same texts."""
        machine = least_machine(self.size, self.moves, self.ends, 0)
        return Format(*machine)

    def backward(self):
        """The least format of the texts with their letters in reverse order."""
        # Turned round, a machine with useful states alone meets few sets of states.
        _, moves, ends = least_machine(self.size, self.moves, self.ends, 0)
        machine = least_of_sets(ends, [(target, letter, state) for state, letter, target in moves], [0])
        return Format(*machine)

    def after(self, text):
        """The least format of what may stand behind a text."""
        state = self.led(text)
        if state is None:
            return Format(1, (), ())
        machine = least_machine(self.size, self.moves, self.ends, state)
        return Format(*machine)

    def is_same(self, other):
        """Whether both formats have the same texts."""
        return first_apart(self, other) is None

    def is_within(self, other):
        """Whether each text of this format is a text of the other one."""
        return first_beyond(self, other) is None

    def parting(self, other):
        """The first text of just one of both formats, or None."""
        return first_apart(self, other)
