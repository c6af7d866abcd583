"""Pairs of states that some drift leads to.

Two rests have a drift exactly if some completer of the one and some completer of the other are such a pair.
"""

from streamwrights.groups import inner_steps
from streamwrights.loops import gain
from streamwrights.loops import writing_steps
from streamwrights.pairs import begin_stands
from streamwrights.pairs import pair_steps
from streamwrights.pairs import pairs_leading
from streamwrights.pairs import stands_behind
from streamwrights.pairs import steps_among


def pairs_behind(steps, starts):
    """The pairs to which steps, perhaps none, lead from some starts, as the keys of a dict."""
    waiting = list(starts)
    known = {}
    while waiting:
        pair = waiting.pop()
        if pair not in known:
            known[pair] = True
            waiting.extend([step[2] for step in steps[pair]])
    return known


def uneven_pairs(translator, inner):
    """For each group with a loop on which both runs write unlike numbers of letters some of its pairs."""
    heights = {}
    uneven = []
    for root in inner:
        waiting = [root] if root not in heights else []
        heights.setdefault(root, 0)
        while waiting:
            pair = waiting.pop()
            for step in inner[pair]:
                height = heights[pair] + gain(translator, step)
                if step[2] not in heights:
                    heights[step[2]] = height
                    waiting.append(step[2])
                elif heights[step[2]] != height:
                    uneven.append(pair)
    return uneven


def suspect_pairs(translator, steps):
    """Pairs with a delay that some writing loop behind them changes, as the keys of a dict.

    The steps are those of pairs that lead to writing loops on which both runs write equally many letters.
    """
    stands = begin_stands(translator, steps)
    known = {}
    found = {}
    at = 0
    while at < len(stands):
        pair, left, right, _, _, _ = stands[at]
        sign = (pair, len(left) - len(right))
        if (left != "" and right != "") or known.get(sign, (left, right)) != (left, right):
            found[pair] = True
        elif sign not in known:
            known[sign] = (left, right)
            further = stands_behind(translator, steps, stands, at)
            stands.extend(further)
        at += 1
    return found


def drifting_pairs(translator):
    """The pairs of useful states to which some drift leads, as the keys of a dict."""
    steps = pair_steps(translator)
    inner = inner_steps(steps)
    uneven = pairs_behind(steps, uneven_pairs(translator, inner))
    even = {pair: True for pair in steps if pair not in uneven}
    goals = writing_steps(translator, steps_among(inner, even))
    among = steps_among(steps, even)
    leading = steps_among(among, pairs_leading(among, list(goals)))
    suspects = pairs_behind(leading, list(suspect_pairs(translator, leading)))
    changing = [pair for pair in suspects if pair in goals]
    return pairs_behind(steps, list(uneven) + changing)
