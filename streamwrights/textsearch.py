"""Texts of loose machines: first ones, and ones that another loose machine does not have."""


def distances(moves, ends):
    """For each state from which an end is met the least number of moves to one."""
    sources = {}
    for state, _, target in moves:
        sources[target] = sources.get(target, ()) + (state,)
    far = {state: 0 for state in ends}
    found = list(far)
    at = 0
    while at < len(found):
        state = found[at]
        for source in sources.get(state, ()):
            if source not in far:
                far[source] = far[state] + 1
                found.append(source)
        at += 1
    return far


def steps_of(moves):
    """For each state the tuple of the pairs (letter, state) of its moves."""
    steps = {}
    for state, letter, target in moves:
        steps[state] = steps.get(state, ()) + ((letter, target),)
    return steps


def first_text_led(begins, moves, ends):
    """The first text of a loose machine, or None."""
    far = distances(moves, ends)
    steps = steps_of(moves)
    left = min([far[state] for state in begins if state in far], default=None)
    if left is None:
        return None
    states = [state for state in begins if far.get(state) == left]
    letters = []
    while left > 0:
        left -= 1
        onward = [step for state in states for step in steps.get(state, ()) if far.get(step[1]) == left]
        letters.append(min([letter for letter, _ in onward]))
        states = sorted({target for letter, target in onward if letter == letters[-1]})
    return "".join(letters)


class StateSets:
    """The sets of states that texts meet in a loose machine, each one as the bits of an integer."""

    def __init__(self, begins, moves, ends):
        self.start = self.bits_for(begins)
        self.finals = self.bits_for(ends)
        self.targets = {}
        for state, letter, target in moves:
            row = self.targets.setdefault(letter, {})
            row[state] = row.get(state, 0) | (1 << target)
        self.known = {}

    def bits_for(self, states):
        """The bits of some states."""
        bits = 0
        for state in states:
            bits = bits | (1 << state)
        return bits

    def set_led(self, bits, letter):
        """The set to which a letter leads from a set."""
        if (bits, letter) not in self.known:
            goal = 0
            for state, further in self.targets.get(letter, {}).items():
                if (bits >> state) & 1 == 1:
                    goal = goal | further
            self.known[bits, letter] = goal
        return self.known[bits, letter]


def is_covered(known, bits):
    """Whether some known set has no state that is not in a set."""
    return any([old & bits == old for old in known])


def text_outside(one, other):
    """A text of one loose machine that is none of the other one, or None."""
    # What leads outside from a state and a set leads outside from this state and each smaller set, too; so a set is
    # followed only where no smaller one was met with the same state.
    begins, moves, ends = one
    sets = StateSets(*other)
    steps = steps_of(moves)
    final = {state: True for state in ends}
    found = [(state, sets.start, "") for state in sorted(set(begins))]
    known = {state: [sets.start] for state, _, _ in found}
    at = 0
    while at < len(found):
        state, bits, text = found[at]
        if state in final and bits & sets.finals == 0:
            return text
        for letter, target in steps.get(state, ()):
            goal = sets.set_led(bits, letter)
            if not is_covered(known.get(target, []), goal):
                known[target] = [old for old in known.get(target, []) if goal & old != goal] + [goal]
                found.append((target, goal, text + letter))
        at += 1
    return None
