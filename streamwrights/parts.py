"""Parts of translators as plain values: tuples (states, begins, moves, ends), and others made from them."""

from streamwrights.machines import states_ending
from streamwrights.machines import states_met


def parts_of(translator):
    """The parts of a translator."""
    return translator.states, translator.begins, translator.moves, translator.ends


def states_useful(states, begins, moves, ends):
    """The ascending list of the states that are met on some run."""
    # One more state stands ahead of all begins, so that all that is met is met from it.
    rows = [() for state in range(states + 1)]
    rows[states] = tuple([("", state) for state, _ in begins])
    for state, letter, _, target in moves:
        rows[state] = rows[state] + ((letter, target),)
    ending = states_ending(rows, [state for state, _ in ends])
    return sorted([state for state in states_met(rows, states) if state in ending and state != states])


def kept_parts(begins, moves, ends, chosen):
    """The parts with just some states, numbered in their order, and what is of and between these."""
    numbers = {state: number for number, state in enumerate(chosen)}
    heads = [(numbers[state], word) for state, word in begins if state in numbers]
    tails = [(numbers[state], word) for state, word in ends if state in numbers]
    steps = [(numbers[state], letter, word, numbers[target]) for state, letter, word, target in moves
             if state in numbers and target in numbers]
    return len(chosen), ascending(heads), ascending(steps), ascending(tails)


def ascending(rows):
    """The ascending tuple of some rows."""
    return tuple(sorted(set(rows)))


def trimmed_parts(states, begins, moves, ends):
    """The parts with just the useful states."""
    return kept_parts(begins, moves, ends, states_useful(states, begins, moves, ends))


def renumbered_parts(states, begins, moves, ends, order):
    """The parts in which each state has the number that stands for it in order."""
    heads = [(order[state], word) for state, word in begins]
    steps = [(order[state], letter, word, order[target]) for state, letter, word, target in moves]
    tails = [(order[state], word) for state, word in ends]
    return states, ascending(heads), ascending(steps), ascending(tails)


def both_parts(one, other):
    """The parts of two translators side by side."""
    many = one[0]
    begins = [(state + many, word) for state, word in other[1]]
    moves = [(state + many, letter, word, target + many) for state, letter, word, target in other[2]]
    ends = [(state + many, word) for state, word in other[3]]
    return many + other[0], one[1] + tuple(begins), one[2] + tuple(moves), one[3] + tuple(ends)


def turned_parts(states, begins, moves, ends):
    """The parts that read and write from behind."""
    heads = [(state, word[::-1]) for state, word in ends]
    steps = [(target, letter, word[::-1], state) for state, letter, word, target in moves]
    tails = [(state, word[::-1]) for state, word in begins]
    return states, ascending(heads), ascending(steps), ascending(tails)


def filter_parts(size, moves, ends):
    """The parts that have each text of a format as its own answer."""
    steps = tuple([(state, letter, letter, target) for state, letter, target in moves])
    return size, ((0, ""),), steps, tuple([(state, "") for state in ends])
