"""Leads and pipes by plain reckonings: along all partial runs of a few moves, and papers by the words of the document."""

from tests.reckoning import fits, is_number, is_sorted, useful_states


def partial_runs(translator, most):
    """All partial runs of at most so many moves with useful last states, with these states."""
    useful = useful_states(translator)
    rows = [((begin, ()), state) for begin, (state, _) in enumerate(translator.begins) if state in useful]
    found = list(rows)
    for _ in range(most):
        rows = [((run[0], run[1] + (index,)), move[3]) for run, last in rows
                for index, move in enumerate(translator.moves) if move[0] == last and move[3] in useful]
        found += rows
    return found


def lead(translator, run):
    word = translator.begins[run[0]][1] + "".join(translator.moves[index][2] for index in run[1])
    return len(word) - len(run[1])


def waiting(translator, run):
    pipe = list(translator.begins[run[0]][1])
    for index in run[1]:
        pipe += list(translator.moves[index][2])
        pipe = pipe[1:]
    return len(pipe) + (len(translator.ends[run[2]][1]) if len(run) == 3 else 0)


def leads_up_to(translator, most):
    """For each useful state the pairs (lead, waiting) of partial runs of at most so many moves."""
    useful = useful_states(translator)
    rows = {(state, len(word), len(word)) for state, word in translator.begins if state in useful}
    found = set(rows)
    for _ in range(most):
        rows = {(target, height + len(word) - 1, max(0, many + len(word) - 1)) for state, height, many in rows
                for source, _, word, target in translator.moves if source == state and target in useful}
        found |= rows
    return found


def loop_signs(translator):
    """The signs of the leads of loops of useful states, by all leads of ways of few moves."""
    useful = useful_states(translator)
    signs = set()
    for start in useful:
        rows = {(start, 0)}
        # A loop with a lead has within it one that meets each state once at most.
        for _ in range(translator.states):
            rows = {(target, height + len(word) - 1) for state, height in rows
                    for source, _, word, target in translator.moves if source == state and target in useful}
            signs |= {(height > 0) - (height < 0) for state, height in rows if state == start}
    return signs


def is_run_of(translator, thing, is_whole):
    parts = 3 if is_whole else 2
    if type(thing) is not tuple or len(thing) != parts or not is_number(thing[0], len(translator.begins)):
        return False
    if type(thing[1]) is not tuple:
        return False
    state = translator.begins[thing[0]][0]
    for index in thing[1]:
        if not is_number(index, len(translator.moves)) or translator.moves[index][0] != state:
            return False
        state = translator.moves[index][3]
    if is_whole:
        return is_number(thing[2], len(translator.ends)) and translator.ends[thing[2]][0] == state
    return True


def last_state(translator, run):
    return translator.moves[run[1][-1]][3] if run[1] else translator.begins[run[0]][0]


def is_integer(thing):
    return type(thing) is int


def are_rows(translator, thing, length):
    if type(thing) is not tuple or not all(fits(row, *[is_integer] * length) for row in thing) or not is_sorted(thing):
        return False
    return [row[0] for row in thing] == list(useful_states(translator))


def is_loop(translator, state, thing):
    if type(thing) is not tuple or not thing:
        return False
    at = state
    for index in thing:
        if not is_number(index, len(translator.moves)) or translator.moves[index][0] != at:
            return False
        at = translator.moves[index][3]
    return at == state


def is_pace(translator, thing):
    """Whether any value is a pace, by the words of the document."""
    if type(thing) is not tuple or not thing or type(thing[0]) is not str:
        return False
    if thing[0] == "between" and len(thing) == 2:
        if not are_rows(translator, thing[1], 3):
            return False
        low, high = {row[0]: row[1] for row in thing[1]}, {row[0]: row[2] for row in thing[1]}
        return (all(low[state] <= len(word) <= high[state] for state, word in translator.begins if state in low)
                and all(low[target] <= low[state] + len(word) - 1 and high[target] >= high[state] + len(word) - 1
                        for state, _, word, target in translator.moves if state in low and target in low))
    if thing[0] not in ("rises", "falls") or len(thing) != 3 or not is_run_of(translator, thing[1], False):
        return False
    state = last_state(translator, thing[1])
    if state not in useful_states(translator) or not is_loop(translator, state, thing[2]):
        return False
    height = sum(len(translator.moves[index][2]) - 1 for index in thing[2])
    return height > 0 if thing[0] == "rises" else height < 0


def is_pipe(translator, many, thing):
    """Whether any value is a pipe paper for a number, by the words of the document."""
    if type(thing) is not tuple or not thing or type(thing[0]) is not str:
        return False
    if thing[0] == "full" and len(thing) == 2:
        if is_run_of(translator, thing[1], False):
            return last_state(translator, thing[1]) in useful_states(translator) and waiting(translator, thing[1]) > many
        return is_run_of(translator, thing[1], True) and waiting(translator, thing[1]) > many
    if thing[0] != "pipe" or len(thing) != 3 or not is_number(thing[1], many + 1):
        return False
    if not are_rows(translator, thing[2], 2):
        return False
    high = dict(thing[2])
    return (all(0 <= height <= thing[1] for height in high.values())
            and all(high[state] >= len(word) for state, word in translator.begins if state in high)
            and all(high[target] >= high[state] + len(word) - 1 for state, _, word, target in translator.moves
                    if state in high and target in high)
            and all(thing[1] >= high[state] + len(word) for state, word in translator.ends if state in high))
