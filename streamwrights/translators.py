"""Translators: what they read and write, run by run, and others made from them."""

from streamwrights.chains import Chain
from streamwrights.errors import BadTranslator
from streamwrights.formats import Format
from streamwrights.parts import both_parts
from streamwrights.parts import filter_parts
from streamwrights.parts import parts_of
from streamwrights.parts import renumbered_parts
from streamwrights.parts import states_useful
from streamwrights.parts import trimmed_parts
from streamwrights.parts import turned_parts
from streamwrights.readings import answers_found
from streamwrights.readings import live_layers
from streamwrights.runs import is_begun
from streamwrights.runs import is_whole
from streamwrights.runs import state_behind
from streamwrights.runs import text_of_run
from streamwrights.runs import word_of_run
from streamwrights.sides import read_side
from streamwrights.subsets import least_of_sets
from streamwrights.translatorlines import read_translator
from streamwrights.translatorlines import translator_lines
from streamwrights.values import is_ascending
from streamwrights.values import is_index
from streamwrights.values import is_letter
from streamwrights.values import is_tuple_of
from streamwrights.words import is_word


def is_pair(thing, states):
    """Whether any value is a pair of a state and a word."""
    return is_tuple_of(thing, 2) and is_index(thing[0], states) and is_word(thing[1])


def is_pairs(thing, states):
    """Whether any value is an ascending tuple of pairs of a state and a word."""
    return isinstance(thing, tuple) and all([is_pair(pair, states) for pair in thing]) and is_ascending(thing)


def is_move(thing, states):
    """Whether any value is a quadruple of a state, a letter, a word and a state."""
    if not is_tuple_of(thing, 4) or not is_index(thing[0], states) or not is_index(thing[3], states):
        return False
    return is_letter(thing[1]) and is_word(thing[2])


def is_moves(thing, states):
    """Whether any value is an ascending tuple of moves."""
    return isinstance(thing, tuple) and all([is_move(move, states) for move in thing]) and is_ascending(thing)


def move_groups(moves):
    """For each state and letter that has moves the tuple of their indexes."""
    groups = {}
    for index, move in enumerate(moves):
        groups[move[0], move[1]] = groups.get((move[0], move[1]), ()) + (index,)
    return groups


class Translator:
    """A translator: its states are the integers from 0 to their number less 1."""

    def __init__(self, states, begins, moves, ends):
        if not is_index(states, 1000):
            raise BadTranslator("states")
        if not is_pairs(begins, states):
            raise BadTranslator("begins")
        if not is_moves(moves, states):
            raise BadTranslator("moves")
        if not is_pairs(ends, states):
            raise BadTranslator("ends")
        self.states = states
        self.begins = begins
        self.moves = moves
        self.ends = ends
        self.letters = "".join(sorted({letter for _, letter, _, _ in moves}))
        self.onward = move_groups(moves)

    def __len__(self):
        return len(range(self.states))

    def __eq__(self, other):
        return (isinstance(other, Translator) and self.states == other.states and self.begins == other.begins
                and self.moves == other.moves and self.ends == other.ends)

    def __contains__(self, x):
        if not is_word(x):
            return False
        layer = live_layers(self, x)[0]
        return any([state in layer for state, _ in self.begins])

    def __str__(self):
        return "\n".join(translator_lines(self.states, self.begins, self.moves, self.ends))

    def __or__(self, other):
        one = parts_of(self)
        second = parts_of(other)
        both = both_parts(trimmed_parts(*one), trimmed_parts(*second))
        return Translator(*both)

    @classmethod
    def read(cls, text):
        """The translator with a text; raises BadText(place)."""
        states, begins, moves, ends = read_translator(text)
        return cls(states, begins, moves, ends)

    @property
    def useful(self):
        """The ascending tuple of the states that are met on some run."""
        return tuple(states_useful(self.states, self.begins, self.moves, self.ends))

    def answers(self, text):
        """The ascending tuple of the answers of a text."""
        return answers_found(self, text)

    def is_partial_run(self, thing):
        """Whether any value is a partial run."""
        return is_tuple_of(thing, 2) and is_begun(self, thing[0], thing[1])

    def is_run(self, thing):
        """Whether any value is a run."""
        return is_whole(self, thing)

    def last_state(self, run):
        """The last state of a partial run or a run."""
        return state_behind(self, run[0], run[1])

    def reads(self, run):
        """The text that a partial run or a run reads."""
        return text_of_run(self, run[1])

    def writes(self, run):
        """The word that a partial run or a run writes, at its end, too, if it has one."""
        tail = self.ends[run[2]][1] if len(run) == 3 else ""
        return word_of_run(self, run[0], run[1]) + tail

    def domain(self):
        """The least format of the texts that have an answer."""
        side = read_side(parts_of(self))
        machine = least_of_sets(*side)
        return Format(*machine)

    def through(self, other):
        """A translator with the answers by the other one of the answers by this one."""
        parts = Chain(parts_of(self), parts_of(other)).parts()
        return Translator(*parts)

    def within(self, form):
        """A translator with the answers of just those texts that are texts of a format."""
        parts = Chain(filter_parts(form.size, form.moves, form.ends), parts_of(self)).parts()
        return Translator(*parts)

    def turned_round(self):
        """A translator that reads and writes from behind."""
        parts = turned_parts(self.states, self.begins, self.moves, self.ends)
        return Translator(*parts)

    def trimmed(self):
        """The translator with just the useful states, numbered in their order."""
        parts = trimmed_parts(self.states, self.begins, self.moves, self.ends)
        return Translator(*parts)

    def renumbered(self, order):
        """The translator in which state s has the number order[s]."""
        parts = renumbered_parts(self.states, self.begins, self.moves, self.ends, order)
        return Translator(*parts)
