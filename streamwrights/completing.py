"""Completers of rests, and how texts and pairs of states lead to them."""

from streamwrights.pairs import pair_steps
from streamwrights.pairs import pairs_leading
from streamwrights.pairs import steps_among
from streamwrights.readings import live_layers
from streamwrights.subsets import sets_met


def completers_of(translator, text):
    """The ascending tuple of the completers of a text."""
    layer = live_layers(translator, text)[0]
    return tuple([state for state in translator.useful if state in layer])


def states_led(translator, text):
    """The ascending list of the states to which a text leads."""
    states = sorted({state for state, _ in translator.begins})
    for letter in text:
        states = sorted({translator.moves[index][3] for state in states
                         for index in translator.onward.get((state, letter), ())})
    return states


def have_common(states, others):
    """Whether some of the states are among others."""
    return any([state in others for state in states])


def sets_led(translator):
    """The sets of states to which texts lead, and the steps between their numbers, in the order of their texts."""
    moves = [(state, letter, target) for state, letter, _, target in translator.moves]
    return sets_met([state for state, _ in translator.begins], moves)


def first_text_apart(found, onward, ones, others):
    """The first text that leads to some of the ones or to some of the others, but not to both; or None."""
    texts = [""]
    for at, letter, target in onward:
        if target == len(texts):
            texts.append(texts[at] + letter)
    for at, states in enumerate(found):
        if have_common(states, ones) != have_common(states, others):
            return texts[at]
    return None


def steps_led_on(translator, ones, others):
    """For each pair that texts meet, and that is led on to one of the ones and one of the others, its such steps."""
    steps = pair_steps(translator)
    goals = [pair for pair in steps if pair[0] in ones and pair[1] in others]
    return steps_among(steps, pairs_leading(steps, goals))


def sources_by_letter(translator):
    """For each state and letter the tuple of the states from which moves by the letter lead there."""
    found = {}
    for state, letter, _, target in translator.moves:
        found[target, letter] = found.get((target, letter), ()) + (state,)
    return found


def pairs_led_on(translator, ones, others):
    """All pairs of states, met by texts or not, that are led on, as the keys of a dict."""
    sources = sources_by_letter(translator)
    waiting = [(one, other) for one in ones for other in others]
    known = {}
    while waiting:
        pair = waiting.pop()
        if pair not in known:
            known[pair] = True
            for letter in translator.letters:
                waiting.extend([(one, other) for one in sources.get((pair[0], letter), ())
                                for other in sources.get((pair[1], letter), ())])
    return known
