"""The two sides of translators, given as plain parts: what they read and what they write, as loose machines.

A loose machine is a triple (begins, moves, ends) of states, of moves (state, letter, state) and of states. Several of
its states may be met by one text; such a text is one of its own if one of them is an end.
"""

from streamwrights.chains import rows_for
from streamwrights.chains import words_for
from streamwrights.machines import states_met
from streamwrights.parts import ascending
from streamwrights.parts import trimmed_parts

# Stands in the place of a state behind the end of a run.
END = -1


def read_side(parts):
    """The loose machine of the texts that have an answer."""
    _, begins, moves, ends = trimmed_parts(*parts)
    steps = [(state, letter, target) for state, letter, _, target in moves]
    return [state for state, _ in begins], steps, [state for state, _ in ends]


def nodes_next(states, moves, ends):
    """For each state the nodes that come next, where moves that write nothing are passed by.

    A node is a pair (state, rest): the rest, which is not empty, is still to be written ahead of this state. Behind
    the end of a run stands END; there the rest may be empty.
    """
    silent = [() for state in range(states)]
    for state, letter, word, target in moves:
        if word == "":
            silent[state] = silent[state] + ((letter, target),)
    rows = rows_for(moves)
    tails = words_for(ends)
    found = {}
    for state in range(states):
        lasts = states_met(silent, state)
        nodes = [(target, word) for last in lasts for _, word, target in rows.get(last, ()) if word != ""]
        found[state] = ascending(nodes + [(END, word) for last in lasts for word in tails.get(last, ())])
    return found


def nodes_behind(onward, node):
    """The nodes behind the first letter of the rest of a node."""
    state, rest = node
    return onward[state] if len(rest) == 1 and state != END else ((state, rest[1:]),)


def written_side(parts):
    """The loose machine of all answers."""
    states, begins, moves, ends = trimmed_parts(*parts)
    onward = nodes_next(states, moves, ends)
    heads = [((state, word),) if word != "" else onward[state] for state, word in begins]
    found = sorted({node for nodes in heads for node in nodes})
    starts = list(range(len(found)))
    numbers = {node: number for number, node in enumerate(found)}
    steps = []
    at = 0
    while at < len(found):
        node = found[at]
        further = nodes_behind(onward, node) if node[1] != "" else ()
        for goal in further:
            if goal not in numbers:
                numbers[goal] = len(found)
                found.append(goal)
            steps.append((at, node[1][0], numbers[goal]))
        at += 1
    return starts, steps, [numbers[END, ""]] if (END, "") in numbers else []


def loose_filter(begins, moves, ends):
    """The parts that have each text of a loose machine as its own answer."""
    states = [state for state, _, _ in moves] + [state for _, _, state in moves] + begins + ends
    steps = [(state, letter, letter, target) for state, letter, target in moves]
    heads = [(state, "") for state in begins]
    tails = [(state, "") for state in ends]
    return max(states, default=-1) + 1, ascending(heads), ascending(steps), ascending(tails)
