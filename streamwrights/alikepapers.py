"""Whether values are papers that two rests are alike, or not; the rests stand by their completers."""

from streamwrights.completing import have_common
from streamwrights.completing import pairs_led_on
from streamwrights.completing import states_led
from streamwrights.drifts import drift_holds
from streamwrights.values import is_ascending
from streamwrights.values import is_index
from streamwrights.values import is_tuple_of
from streamwrights.words import delay
from streamwrights.words import is_word


def is_set(translator, thing):
    """Whether any value is an ascending tuple of states that is not empty."""
    if not isinstance(thing, tuple) or thing == ():
        return False
    return all([is_index(state, translator.states) for state in thing]) and is_ascending(thing)


def is_row(translator, thing):
    """Whether any value is a tuple of two states and two words."""
    if not is_tuple_of(thing, 4) or not is_word(thing[2]) or not is_word(thing[3]):
        return False
    return is_index(thing[0], translator.states) and is_index(thing[1], translator.states)


def sets_behind(translator, states):
    """The sets of the states to which letters lead from some states, but for empty ones."""
    found = []
    for letter in translator.letters:
        goal = {translator.moves[index][3]: True for state in states
                for index in translator.onward.get((state, letter), ())}
        if goal != {}:
            found.append(tuple(sorted(goal)))
    return found


def sets_hold(translator, ones, others, thing):
    """Whether any value tells sets of states by which the same texts lead to some of the ones and of the others."""
    if not isinstance(thing, tuple) or not all([is_set(translator, states) for states in thing]):
        return False
    if not is_ascending(thing):
        return False
    known = {states: True for states in thing}
    if tuple(sorted({state for state, _ in translator.begins})) not in known:
        return False
    for states in thing:
        if have_common(states, ones) != have_common(states, others):
            return False
        if not all([goal in known for goal in sets_behind(translator, states)]):
            return False
    return True


def rows_behind(translator, leading, row):
    """The rows to which moves by one letter lead from a row, for pairs that are led on."""
    found = []
    for letter in translator.letters:
        for one in translator.onward.get((row[0], letter), ()):
            for other in translator.onward.get((row[1], letter), ()):
                _, _, word, target = translator.moves[one]
                _, _, further, goal = translator.moves[other]
                if (target, goal) in leading:
                    found.append((target, goal) + delay(row[2] + word, row[3] + further))
    return found


def rows_hold(translator, ones, others, thing):
    """Whether any value tells the delays of all pairs of states that are led on to one of the ones and the others."""
    if not isinstance(thing, tuple) or not all([is_row(translator, row) for row in thing]) or not is_ascending(thing):
        return False
    known = {row: True for row in thing}
    leading = pairs_led_on(translator, ones, others)
    begun = [(first, second) + delay(word, head) for first, word in translator.begins
             for second, head in translator.begins if (first, second) in leading]
    if not all([row in known for row in begun]):
        return False
    for row in thing:
        if not all([further in known for further in rows_behind(translator, leading, row)]):
            return False
    return True


def text_holds(translator, ones, others, thing):
    """Whether any value is a text that leads to some of the ones, or to some of the others, but not to both."""
    if not is_word(thing):
        return False
    states = states_led(translator, thing)
    return have_common(states, ones) != have_common(states, others)


def drift_of_rests_holds(translator, ones, others, parts):
    """Whether a tuple of any five values tells a drift whose runs lead on to one of the ones and one of the others."""
    text, loop, further, run, other = parts
    if not is_word(text) or not is_word(loop) or not is_word(further):
        return False
    if not translator.is_partial_run(run) or not translator.is_partial_run(other):
        return False
    whole = text + loop + further
    if translator.reads(run) != whole or translator.reads(other) != whole:
        return False
    if translator.last_state(run) not in ones or translator.last_state(other) not in others:
        return False
    length = len(text) + len(loop)
    return drift_holds(translator, (text, loop, (run[0], run[1][:length]), (other[0], other[1][:length])))


def unlike_holds(translator, ones, others, thing):
    """Whether any value is a paper that two rests with these completers are not alike."""
    if is_tuple_of(thing, 2) and thing[0] == "text":
        return text_holds(translator, ones, others, thing[1])
    if is_tuple_of(thing, 6) and thing[0] == "drift":
        return drift_of_rests_holds(translator, ones, others, thing[1:])
    return False


def like_holds(translator, ones, others, thing):
    """Whether any value is a paper that two rests with these completers are alike."""
    if not is_tuple_of(thing, 3) or not thing[0] == "alike":
        return False
    return sets_hold(translator, ones, others, thing[1]) and rows_hold(translator, ones, others, thing[2])
