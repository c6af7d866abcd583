"""Machines of which several states may be reached at once, and the least machines that do what they do."""

from streamwrights.machines import least_machine


def targets_of(moves):
    """For each state and letter that has moves the tuple of the states to which they lead."""
    targets = {}
    for state, letter, target in moves:
        targets[state, letter] = targets.get((state, letter), ()) + (target,)
    return targets


def letters_of(moves):
    """The ascending list of the letters of moves (state, letter, state)."""
    return sorted({letter for _, letter, _ in moves})


def sets_met(begins, moves):
    """The sets of states to which texts lead, as ascending tuples, and the moves between their numbers."""
    targets = targets_of(moves)
    letters = letters_of(moves)
    found = [tuple(sorted(set(begins)))]
    numbers = {found[0]: 0}
    onward = []
    at = 0
    while at < len(found):
        for letter in letters:
            goal = tuple(sorted({target for state in found[at] for target in targets.get((state, letter), ())}))
            if goal != ():
                if goal not in numbers:
                    numbers[goal] = len(found)
                    found.append(goal)
                onward.append((at, letter, numbers[goal]))
        at += 1
    return found, onward


def least_of_sets(begins, moves, ends):
    """The least machine for the texts that lead from some begin to some end."""
    found, onward = sets_met(begins, moves)
    final = set(ends)
    last = [number for number, states in enumerate(found) if any([state in final for state in states])]
    return least_machine(len(found), onward, last, 0)
