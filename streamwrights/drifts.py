"""Delays and drifts of translators, and how many letters they hold."""

from streamwrights.errors import Drifts
from streamwrights.heldletters import letters_held
from streamwrights.loops import found_drift
from streamwrights.pairs import all_stands
from streamwrights.pairs import begin_stands
from streamwrights.pairs import fresh_stands
from streamwrights.pairs import pair_steps
from streamwrights.pairs import runs_of
from streamwrights.pairs import stands_behind
from streamwrights.values import is_tuple_of
from streamwrights.words import delay
from streamwrights.words import is_word


def delay_stands(translator):
    """A stand for each delay, for a translator without a drift."""
    return all_stands(translator, pair_steps(translator))


def delays(translator):
    """The ascending tuple of all delays; raises Drifts(drift)."""
    shown = found_drift(translator)
    if shown is not None:
        raise Drifts(shown)
    return tuple(sorted([(pair[0], pair[1], left, right) for pair, left, right, _, _, _ in delay_stands(translator)]))


def drift(translator):
    """A drift of a translator, or None."""
    return found_drift(translator)


def comes_back(translator, run, length):
    """Whether the last state of a partial run is useful, and the one behind so many of its moves, too."""
    state = translator.last_state((run[0], run[1][:length]))
    return state == translator.last_state(run) and state in translator.useful


def drift_holds(translator, thing):
    """Whether any value is a drift of a translator."""
    if not is_tuple_of(thing, 4) or not is_word(thing[0]) or not is_word(thing[1]) or thing[1] == "":
        return False
    text, loop, one, other = thing
    if not translator.is_partial_run(one) or not translator.is_partial_run(other):
        return False
    if translator.reads(one) != text + loop or translator.reads(other) != text + loop:
        return False
    if not comes_back(translator, one, len(text)) or not comes_back(translator, other, len(text)):
        return False
    first = translator.writes((one[0], one[1][:len(text)]))
    second = translator.writes((other[0], other[1][:len(text)]))
    return delay(first, second) != delay(translator.writes(one), translator.writes(other))


def held(translator, text):
    """How many letters a translator holds at a text, or None if it is no beginning."""
    return letters_held(translator, text)


def longer_part(stand):
    """The number of letters of the longer part of the delay of a stand."""
    return max(len(stand[1]), len(stand[2]))


def room(translator):
    """The greatest number of letters that a translator holds, or None."""
    if found_drift(translator) is not None:
        return None
    return max([longer_part(stand) for stand in delay_stands(translator)], default=0)


def text_beyond(translator, number):
    """A shortest text at which a translator holds more letters than a number, or None."""
    steps = pair_steps(translator)
    known = {}
    stands = fresh_stands(known, begin_stands(translator, steps), None)
    at = 0
    while at < len(stands):
        if longer_part(stands[at]) > number:
            run, _ = runs_of(stands, at)
            return translator.reads(run)
        further = stands_behind(translator, steps, stands, at)
        stands.extend(fresh_stands(known, further, None))
        at += 1
    return None
