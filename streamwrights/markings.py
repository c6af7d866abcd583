"""Markings: they hear a text from behind and tell a mark; whether these marks are enough to read once."""

from streamwrights.alikepapers import unlike_holds
from streamwrights.completing import completers_of
from streamwrights.errors import BadMarking
from streamwrights.formats import is_move
from streamwrights.marks import judge_alike
from streamwrights.rightmarks import RightMarks
from streamwrights.same import refuse_unsure
from streamwrights.values import is_ascending
from streamwrights.values import is_index
from streamwrights.values import is_integer
from streamwrights.values import is_tuple_of
from streamwrights.words import is_word


def is_moves(thing, states):
    """Whether any value is an ascending tuple of moves, at most one for each state and letter."""
    if not isinstance(thing, tuple) or not all([is_move(move, states) for move in thing]):
        return False
    return is_ascending(thing) and is_ascending([move[:2] for move in thing])


class Marking:
    """A marking: its states are the integers from 0 to their number less 1, and it begins in state 0, at the end."""

    def __init__(self, states, moves):
        if not is_index(states, 1000) or states == 0:
            raise BadMarking("states")
        if not is_moves(moves, states):
            raise BadMarking("moves")
        self.states = states
        self.moves = moves
        self.steps = {(state, letter): target for state, letter, target in moves}

    def __eq__(self, other):
        return isinstance(other, Marking) and self.states == other.states and self.moves == other.moves

    def told(self, text):
        """The told mark of a text, or None."""
        state = 0
        for letter in reversed(text):
            state = self.steps.get((state, letter))
        return state


def marks_heard(marking, right):
    """For each told mark the pairs (right mark, first such rest) of the rests with it; or a rest without a told mark.

    The pair of both: one of them is None.
    """
    found = [(0, 0, "")] if right.sets != [] else []
    known = {(0, 0): True}
    heard = {}
    at = 0
    while at < len(found):
        number, state, rest = found[at]
        heard.setdefault(state, {}).setdefault(right.set_marks[number], rest)
        for letter, goal in right.letters_ahead(number):
            target = marking.steps.get((state, letter))
            if target is None:
                return None, letter + rest
            if (goal, target) not in known:
                known[goal, target] = True
                found.append((goal, target, letter + rest))
        at += 1
    return heard, None


def judged(translator, marking):
    """A paper whether a marking is enough for a sure translator."""
    heard, lone = marks_heard(marking, RightMarks(translator))
    if heard is None:
        return "none", lone
    for state in heard:
        rests = list(heard[state].values())
        if len(rests) > 1:
            return "short", rests[0], rests[1], judge_alike(translator, rests[0], rests[1])
    return "enough", tuple(sorted([(state, list(heard[state])[0]) for state in heard]))


def judge_marking(translator, marking):
    """A paper whether a marking is enough for a translator; raises NotSure(paper)."""
    refuse_unsure(translator)
    return judged(translator, marking)


def is_pair_of_integers(thing):
    """Whether any value is a pair of integers."""
    return is_tuple_of(thing, 2) and is_integer(thing[0]) and is_integer(thing[1])


def short_holds(translator, marking, v, w, paper):
    """Whether any three values are two rests with one told mark, and a paper that they are not alike."""
    if not is_word(v) or not is_word(w) or marking.told(v) is None or marking.told(v) != marking.told(w):
        return False
    ones = completers_of(translator, v)
    others = completers_of(translator, w)
    return ones != () and others != () and unlike_holds(translator, ones, others, paper)


def marking_holds(translator, marking, thing):
    """Whether any value is a paper for a translator and a marking; raises NotSure(paper)."""
    refuse_unsure(translator)
    if is_tuple_of(thing, 2) and thing[0] == "enough":
        if not isinstance(thing[1], tuple) or not all([is_pair_of_integers(pair) for pair in thing[1]]):
            return False
        return judged(translator, marking) == ("enough", thing[1])
    if is_tuple_of(thing, 2) and thing[0] == "none":
        return is_word(thing[1]) and completers_of(translator, thing[1]) != () and marking.told(thing[1]) is None
    return (is_tuple_of(thing, 4) and thing[0] == "short"
            and short_holds(translator, marking, thing[1], thing[2], thing[3]))


def is_enough(translator, marking):
    """Whether a marking is enough for a translator; raises NotSure(paper)."""
    return judge_marking(translator, marking)[0] == "enough"


def least_marking(translator):
    """The marking whose states are the right marks; raises NotSure(paper)."""
    refuse_unsure(translator)
    right = RightMarks(translator)
    moves = [(mark, letter, goal) for (letter, mark), goal in right.mark_ahead.items()]
    return Marking(max(1, len(right.mark_rests)), tuple(sorted(moves)))
