"""Drifts: loops of pairs of states that change a delay.

A group of pairs is even if on each of its loops both runs write equally many letters. A group that is not even has a
drift. In an even group with a loop on which something is written, the loop keeps just those delays of which one part
is empty and the other one is followed by the same endless words. So there is a drift, too, if some way to such a
group has a delay with two parts, or if two ways have unlike delays of equal lengths; and otherwise there is none.
"""

from streamwrights.groups import inner_steps
from streamwrights.groups import way
from streamwrights.groups import way_back_from
from streamwrights.pairs import begin_stands
from streamwrights.pairs import pair_steps
from streamwrights.pairs import pairs_leading
from streamwrights.pairs import runs_of
from streamwrights.pairs import stands_behind
from streamwrights.pairs import steps_among
from streamwrights.words import delay


def gain(translator, step):
    """How many letters more the first run writes by a step than the other one."""
    return len(translator.moves[step[0]][2]) - len(translator.moves[step[1]][2])


def gain_of_all(translator, path):
    """How many letters more the first run writes by some steps than the other one."""
    return sum([gain(translator, step) for step in path])


def uneven_loop(translator, inner):
    """A pair and the steps of a loop on which both runs write unlike numbers of letters, or None."""
    heights = {}
    came = {}
    for root in inner:
        found = [root] if root not in heights else []
        came.setdefault(root, ())
        heights.setdefault(root, 0)
        at = 0
        while at < len(found):
            pair = found[at]
            for step in inner[pair]:
                height = heights[pair] + gain(translator, step)
                if step[2] not in heights:
                    heights[step[2]] = height
                    came[step[2]] = (pair, step)
                    found.append(step[2])
                elif heights[step[2]] != height:
                    return root, uneven_one(translator, inner, came, pair, step)
            at += 1
    return None


def uneven_one(translator, inner, came, pair, step):
    """The uneven one of two loops that go to one pair by unlike gains, and back from it by the same way."""
    root, ahead = way_back_from(came, pair)
    _, back = way(inner, [step[2]], {root: True})
    loop = ahead + [step] + back
    return loop if gain_of_all(translator, loop) != 0 else way_back_from(came, step[2])[1] + back


def writing_steps(translator, inner):
    """For each pair that has one a step within its group by which something is written."""
    found = {}
    for pair in inner:
        for step in inner[pair]:
            if translator.moves[step[0]][2] + translator.moves[step[1]][2] != "":
                found[pair] = step
    return found


def suspects_met(translator, steps):
    """Stands of the pairs that have steps, and the indexes of some of them of which at least one leads to a drift.

    There are no such indexes if each delay has one part, and its length tells it.
    """
    stands = begin_stands(translator, steps)
    known = {}
    at = 0
    while at < len(stands):
        pair, left, right, _, _, _ = stands[at]
        if left != "" and right != "":
            return stands, [at]
        sign = (pair, len(left) - len(right))
        if sign not in known:
            known[sign] = at
            further = stands_behind(translator, steps, stands, at)
            stands.extend(further)
        elif stands[known[sign]][1:3] != (left, right):
            return stands, [known[sign], at]
        at += 1
    return stands, []


def shown_drift(translator, runs, path, loop):
    """A drift of two partial runs with the steps of a path and of a loop behind them; None if it changes no delay."""
    starts = [(runs[side][0], runs[side][1] + tuple([step[side] for step in path])) for side in range(2)]
    wholes = [(starts[side][0], starts[side][1] + tuple([step[side] for step in loop])) for side in range(2)]
    first = [translator.writes(run) for run in starts]
    last = [translator.writes(run) for run in wholes]
    if delay(first[0], first[1]) == delay(last[0], last[1]):
        return None
    text = translator.reads(starts[0])
    return text, translator.reads(wholes[0])[len(text):], wholes[0], wholes[1]


def uneven_drift(translator, steps, pair, loop):
    """The drift of an uneven loop of a pair."""
    stands = begin_stands(translator, steps)
    start, path = way(steps, [stand[0] for stand in stands], {pair: True})
    at = [stand[0] for stand in stands].index(start)
    return shown_drift(translator, runs_of(stands, at), path, loop)


def found_drift(translator):
    """A drift of a translator, or None."""
    return drift_among(translator, pair_steps(translator))


def drift_among(translator, steps):
    """A drift that goes by the steps of some pairs alone, or None.

    The steps are those among pairs that texts meet by pairs which have steps, too.
    """
    inner = inner_steps(steps)
    uneven = uneven_loop(translator, inner)
    if uneven is not None:
        return uneven_drift(translator, steps, uneven[0], uneven[1])
    goals = writing_steps(translator, inner)
    leading = steps_among(steps, pairs_leading(steps, list(goals)))
    stands, suspects = suspects_met(translator, leading)
    for at in suspects:
        start, path = way(leading, [stands[at][0]], goals)
        goal = path[-1][2] if path != [] else start
        _, back = way(inner, [goals[goal][2]], {goal: True})
        shown = shown_drift(translator, runs_of(stands, at), path, [goals[goal]] + back)
        if shown is not None:
            return shown
    return None
