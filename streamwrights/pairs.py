"""Pairs of partial runs of one text: the pairs of states that they meet, and the delays of what they have written.

The steps of a pair of states are triples (index of a move, index of a move, pair): both moves read one letter.
A stand is a tuple (pair, left, right, parent, one, other): two partial runs with these last states, the delay of what
they have written, the index of the stand one letter earlier, and the indexes of their last moves. A stand of the empty
text has the parent -1 and the indexes of two begins.
"""

from streamwrights.words import delay


def steps_from(translator, states, pair):
    """The steps of a pair to pairs of some states."""
    found = []
    for letter in translator.letters:
        for one in translator.onward.get((pair[0], letter), ()):
            for other in translator.onward.get((pair[1], letter), ()):
                target = (translator.moves[one][3], translator.moves[other][3])
                if target[0] in states and target[1] in states:
                    found.append((one, other, target))
    return found


def pair_steps(translator):
    """For each pair of useful states that a text meets, in the order of the texts, its steps to such pairs."""
    states = {state: True for state in translator.useful}
    begins = sorted({state for state, _ in translator.begins if state in states})
    found = [(first, second) for first in begins for second in begins]
    steps = {pair: [] for pair in found}
    at = 0
    while at < len(found):
        row = steps_from(translator, states, found[at])
        steps[found[at]] = row
        for _, _, target in row:
            if target not in steps:
                steps[target] = []
                found.append(target)
        at += 1
    return steps


def pair_sources(steps):
    """For each pair the list of the pairs that have a step to it."""
    sources = {pair: [] for pair in steps}
    for pair in steps:
        for _, _, target in steps[pair]:
            sources[target].append(pair)
    return sources


def pairs_leading(steps, goals):
    """The pairs from which steps, perhaps none, lead to some goals, as the keys of a dict."""
    sources = pair_sources(steps)
    waiting = list(goals)
    known = {}
    while waiting:
        pair = waiting.pop()
        if pair not in known:
            known[pair] = True
            waiting.extend(sources[pair])
    return known


def steps_among(steps, chosen):
    """The steps of some pairs to such pairs."""
    return {pair: [step for step in steps[pair] if step[2] in chosen] for pair in steps if pair in chosen}


def useful_pair_steps(translator):
    """For each useful pair its steps to useful pairs."""
    steps = pair_steps(translator)
    ending = {state: True for state, _ in translator.ends}
    goals = [pair for pair in steps if pair[0] in ending and pair[1] in ending]
    return steps_among(steps, pairs_leading(steps, goals))


def begin_stands(translator, steps):
    """The stands of the empty text for the pairs that have steps."""
    stands = []
    for one, (first, word) in enumerate(translator.begins):
        for other, (second, head) in enumerate(translator.begins):
            if (first, second) in steps:
                left, right = delay(word, head)
                stands.append(((first, second), left, right, -1, one, other))
    return stands


def stands_behind(translator, steps, stands, at):
    """The stands one letter behind the one with an index."""
    pair, left, right, _, _, _ = stands[at]
    further = []
    for one, other, target in steps[pair]:
        ahead, behind = delay(left + translator.moves[one][2], right + translator.moves[other][2])
        further.append((target, ahead, behind, at, one, other))
    return further


def fresh_stands(known, stands, most):
    """Those of some stands that have a delay which is not known for their pair; they are known then.

    At most so many delays are kept for each pair, all if most is None.
    """
    fresh = []
    for stand in stands:
        held = known.setdefault(stand[0], {})
        if (stand[1], stand[2]) not in held and (most is None or len(held) < most):
            held[stand[1], stand[2]] = True
            fresh.append(stand)
    return fresh


def all_stands(translator, steps):
    """A stand for each delay of the pairs that have steps, which lead on to none with a drift."""
    known = {}
    stands = fresh_stands(known, begin_stands(translator, steps), None)
    at = 0
    while at < len(stands):
        further = stands_behind(translator, steps, stands, at)
        stands.extend(fresh_stands(known, further, None))
        at += 1
    return stands


def runs_of(stands, at):
    """The two partial runs of the stand with an index."""
    first = []
    second = []
    while stands[at][3] != -1:
        first.append(stands[at][4])
        second.append(stands[at][5])
        at = stands[at][3]
    return (stands[at][4], tuple(first[::-1])), (stands[at][5], tuple(second[::-1]))
