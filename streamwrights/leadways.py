"""How leads change along the moves between useful states: loops, and the greatest and least leads.

The steps of a useful state are triples (index of a move, gain, state): the gain is what the move adds to the lead. The
sign 1 asks for greatest leads, -1 for least ones.
"""

from streamwrights.groups import way


def lead_steps(translator):
    """For each useful state its steps to useful states."""
    steps = {state: [] for state in translator.useful}
    for index, (state, _, word, target) in enumerate(translator.moves):
        if state in steps and target in steps:
            steps[state].append((index, len(word) - 1, target))
    return steps


def rising_loop(steps, sign):
    """A state and the steps of a loop of it whose gain has the given sign, or None if there is none."""
    best = {state: 0 for state in steps}
    came = {}
    last = None
    # Without such a loop no lead grows by more moves than there are states.
    for _ in range(len(steps) + 1):
        last = None
        for state in steps:
            for step in steps[state]:
                if best[state] + sign * step[1] > best[step[2]]:
                    best[step[2]] = best[state] + sign * step[1]
                    came[step[2]] = (state, step)
                    last = step[2]
        if last is None:
            return None
    return loop_led(came, last, len(steps)) if last is not None else None


def loop_led(came, state, many):
    """The loop to which the ways that came to a state lead back, if followed for so many steps."""
    for _ in range(many):
        state, _ = came[state]
    loop = []
    at = state
    while loop == [] or at != state:
        at, step = came[at]
        loop.append(step)
    return state, loop[::-1]


def greatest_leads(translator, steps, sign):
    """For each useful state the greatest lead, times the sign, of partial runs to it; there is no rising loop."""
    best = {}
    for state, word in translator.begins:
        if state in steps:
            best[state] = max(best.get(state, sign * len(word)), sign * len(word))
    waiting = list(best)
    while waiting:
        state = waiting.pop()
        for _, gain, target in steps[state]:
            lead = best[state] + sign * gain
            if lead > best.get(target, lead - 1):
                best[target] = lead
                waiting.append(target)
    return best


def run_to(translator, steps, state):
    """A partial run to a useful state."""
    start, path = way(steps, [first for first, _ in translator.begins if first in steps], {state: True})
    begin = [first for first, _ in translator.begins].index(start)
    return begin, tuple([step[0] for step in path])


def longest_tails(translator):
    """For each state with an end the number of letters of the longest word of its ends, and the index of this end."""
    found = {}
    for index, (state, word) in enumerate(translator.ends):
        if len(word) > found.get(state, (-1, -1))[0]:
            found[state] = (len(word), index)
    return found


def most_waiting(translator, most):
    """The greatest numbers of letters waiting behind useful states; and a run behind which more than most are, or None.

    If there is such a run, just some of these numbers are told. If most is None, there is no loop by which more and
    more letters are waiting.
    """
    steps = lead_steps(translator)
    tails = longest_tails(translator)
    # A stand is (state, many, parent, index): of the stand one move earlier and of the move, or -1 and of the begin.
    stands = [(state, len(word), -1, begin) for begin, (state, word) in enumerate(translator.begins) if state in steps]
    best = {}
    at = 0
    while at < len(stands):
        state, many, _, _ = stands[at]
        if many > best.get(state, -1):
            best[state] = many
            length, end = tails.get(state, (0, -1))
            if most is not None and many + length > most:
                return best, run_of(stands, at) + (() if many > most else (end,))
            stands.extend([(target, max(0, many + gain), at, index) for index, gain, target in steps[state]])
        at += 1
    return best, None


def run_of(stands, at):
    """The partial run of the stand with an index."""
    path = []
    while stands[at][2] != -1:
        path.append(stands[at][3])
        at = stands[at][2]
    return stands[at][3], tuple(path[::-1])
