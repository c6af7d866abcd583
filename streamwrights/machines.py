"""Machines: sizes, moves and ends as formats have them, as plain values."""


def rows_of(size, moves):
    """For each state the tuple of its pairs (letter, state), by ascending letters."""
    rows = [() for state in range(size)]
    for state, letter, target in sorted(moves):
        rows[state] = rows[state] + ((letter, target),)
    return rows


def states_met(rows, start):
    """The states to which texts lead from a state, in the order of their first texts."""
    found = [start]
    known = {start: True}
    at = 0
    while at < len(found):
        row = rows[found[at]]
        for _, target in row:
            if target not in known:
                known[target] = True
                found.append(target)
        at += 1
    return found


def states_ending(rows, ends):
    """The states from which moves, perhaps none, lead to an end, as the keys of a dict."""
    sources = [() for row in rows]
    for state, row in enumerate(rows):
        for _, target in row:
            sources[target] = sources[target] + (state,)
    waiting = list(ends)
    known = {}
    while waiting:
        state = waiting.pop()
        if state not in known:
            known[state] = True
            waiting.extend(sources[state])
    return known


def classes_of(rows, states, ends):
    """For each of some states its class: from states of one class the same texts lead to ends."""
    final = set(ends)
    return finer_classes(rows, {state: 1 if state in final else 0 for state in states})


def finer_classes(rows, kinds):
    """For each state its class within a first kind, such that equal steps lead from one class to one class.

    The row of a state has pairs (sign, state); steps to states without a kind are left out.
    """
    many = 0
    while True:
        numbers = {}
        finer = {}
        for state in kinds:
            onward = [(sign, kinds[target]) for sign, target in rows[state] if target in kinds]
            whole = (kinds[state], tuple(onward))
            if whole not in numbers:
                numbers[whole] = len(numbers)
            finer[state] = numbers[whole]
        if len(numbers) == many:
            return finer
        many = len(numbers)
        kinds = finer


def first_states(rows, kinds, start):
    """The first state of each class that is met from a state, in the order of the first texts that lead there."""
    chosen = [start]
    known = {kinds[start]: True}
    at = 0
    while at < len(chosen):
        row = rows[chosen[at]]
        for _, target in row:
            if target in kinds and kinds[target] not in known:
                known[kinds[target]] = True
                chosen.append(target)
        at += 1
    return chosen


def numbered_classes(rows, kinds, ends, start):
    """The machine whose states are the classes, numbered as they are met."""
    final = set(ends)
    chosen = first_states(rows, kinds, start)
    numbers = {kinds[state]: number for number, state in enumerate(chosen)}
    moves = [(numbers[kinds[state]], letter, numbers[kinds[target]]) for state in chosen
             for letter, target in rows[state] if target in kinds]
    last = [number for number, state in enumerate(chosen) if state in final]
    return len(chosen), tuple(moves), tuple(last)


def least_machine(size, moves, ends, start):
    """The least machine of a machine that begins in a given state."""
    rows = rows_of(size, moves)
    ending = states_ending(rows, ends)
    if start not in ending:
        return 1, (), ()
    states = [state for state in states_met(rows, start) if state in ending]
    kinds = classes_of(rows, states, ends)
    return numbered_classes(rows, kinds, ends, start)


def end_layer(size, ends):
    """For each state whether it is an end."""
    final = set(ends)
    return [state in final for state in range(size)]


def layer_ahead(rows, layer):
    """For each state whether one move leads from it into a layer."""
    return [any([layer[target] for _, target in row]) for row in rows]


def texts_of_length(rows, layers):
    """Yield in order the texts of one length.

    The layer at an index tells from which states an end is met by so many letters; the last layer tells the length.
    """
    length = len(layers) - 1
    waiting = [(0, "")] if layers[length][0] else []
    while waiting:
        state, text = waiting.pop()
        if len(text) == length:
            yield text
        else:
            layer = layers[length - len(text) - 1]
            onward = [(target, text + letter) for letter, target in rows[state] if layer[target]]
            waiting.extend(onward[::-1])


def word_machine(word):
    """The machine with just one text."""
    return len(word) + 1, tuple([(at, letter, at + 1) for at, letter in enumerate(word)]), (len(word),)


def other_machine(size, moves, ends, letters):
    """The machine of all texts of some letters that a machine does not have; its last state stands for nowhere."""
    steps = {(state, letter): target for state, letter, target in moves}
    onward = [(state, letter, steps.get((state, letter), size)) for state in range(size + 1) for letter in letters]
    final = set(ends)
    return size + 1, tuple(onward), tuple([state for state in range(size + 1) if state not in final])
