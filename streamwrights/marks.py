"""Marks from behind: rests, their completers, and which rests are alike."""

from streamwrights.alikepapers import like_holds
from streamwrights.alikepapers import unlike_holds
from streamwrights.completing import completers_of
from streamwrights.completing import first_text_apart
from streamwrights.completing import have_common
from streamwrights.completing import sets_led
from streamwrights.completing import states_led
from streamwrights.completing import steps_led_on
from streamwrights.errors import NoRest
from streamwrights.groups import way
from streamwrights.loops import drift_among
from streamwrights.pairs import all_stands
from streamwrights.same import refuse_unsure


def is_rest(translator, text):
    """Whether a text stands at the end of some text with an answer; raises NotSure(paper)."""
    refuse_unsure(translator)
    return completers_of(translator, text) != ()


def is_beginning(translator, text):
    """Whether some text with an answer begins with a text; raises NotSure(paper)."""
    refuse_unsure(translator)
    return have_common(states_led(translator, text), translator.useful)


def completers(translator, text):
    """The ascending tuple of the completers of a text; raises NotSure(paper)."""
    refuse_unsure(translator)
    return completers_of(translator, text)


def completers_of_rest(translator, text):
    """The completers of a rest; raises NoRest(text) if it is none."""
    states = completers_of(translator, text)
    if states == ():
        raise NoRest(text)
    return states


def drift_of_rests(translator, steps, ones, others):
    """The parts of a drift behind which both runs lead on to one of the ones and one of the others, or None."""
    shown = drift_among(translator, steps)
    if shown is None:
        return None
    text, loop, run, other = shown
    goals = {(one, second): True for one in ones for second in others}
    _, path = way(steps, [(translator.last_state(run), translator.last_state(other))], goals)
    whole = (run[0], run[1] + tuple([step[0] for step in path]))
    second = (other[0], other[1] + tuple([step[1] for step in path]))
    return text, loop, translator.reads(whole)[len(text) + len(loop):], whole, second


def unlike_paper(translator, ones, others):
    """A paper that two rests with these completers are not alike, or None."""
    found, onward = sets_led(translator)
    text = first_text_apart(found, onward, ones, others)
    if text is not None:
        return "text", text
    shown = drift_of_rests(translator, steps_led_on(translator, ones, others), ones, others)
    return None if shown is None else ("drift",) + shown


def like_paper(translator, ones, others):
    """The paper that two rests with these completers are alike, if they are."""
    found, _ = sets_led(translator)
    stands = all_stands(translator, steps_led_on(translator, ones, others))
    rows = [(pair[0], pair[1], left, right) for pair, left, right, _, _, _ in stands]
    return "alike", tuple(sorted(found)), tuple(sorted(rows))


def are_alike(translator, v, w):
    """Whether two rests are alike; raises NotSure(paper), then NoRest(text)."""
    refuse_unsure(translator)
    ones = completers_of_rest(translator, v)
    others = completers_of_rest(translator, w)
    return unlike_paper(translator, ones, others) is None


def judge_alike(translator, v, w):
    """A paper whether two rests are alike; raises NotSure(paper), then NoRest(text)."""
    refuse_unsure(translator)
    ones = completers_of_rest(translator, v)
    others = completers_of_rest(translator, w)
    paper = unlike_paper(translator, ones, others)
    return paper if paper is not None else like_paper(translator, ones, others)


def alike_holds(translator, v, w, thing):
    """Whether any value is a paper for two rests; raises NotSure(paper)."""
    refuse_unsure(translator)
    ones = completers_of(translator, v)
    others = completers_of(translator, w)
    if ones == () or others == ():
        return False
    return like_holds(translator, ones, others, thing) or unlike_holds(translator, ones, others, thing)
