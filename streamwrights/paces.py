"""Paces: how far what is written runs ahead of what is read, and how much waits in a pipe behind a translator."""

from streamwrights.leadways import greatest_leads
from streamwrights.leadways import lead_steps
from streamwrights.leadways import longest_tails
from streamwrights.leadways import most_waiting
from streamwrights.leadways import rising_loop
from streamwrights.leadways import run_to
from streamwrights.values import is_ascending
from streamwrights.values import is_index
from streamwrights.values import is_integer
from streamwrights.values import is_tuple_of

# The kinds of paces that show a loop, and the signs of the leads of these loops.
SIGNS = {"rises": 1, "falls": -1}


def lead_of(translator, run):
    """The lead of a partial run."""
    return len(translator.writes(run)) - len(translator.reads(run))


def leads(translator):
    """The least and the greatest lead of useful partial runs, None in the place of one that there is not."""
    steps = lead_steps(translator)
    found = []
    for sign in (-1, 1):
        if rising_loop(steps, sign) is not None:
            found.append(None)
        else:
            found.append(sign * max(list(greatest_leads(translator, steps, sign).values()), default=0))
    return tuple(found)


def pace(translator):
    """A pace of a translator."""
    steps = lead_steps(translator)
    for kind in SIGNS:
        found = rising_loop(steps, SIGNS[kind])
        if found is not None:
            return kind, run_to(translator, steps, found[0]), tuple([step[0] for step in found[1]])
    low = greatest_leads(translator, steps, -1)
    high = greatest_leads(translator, steps, 1)
    return "between", tuple([(state, -low[state], high[state]) for state in steps])


def is_row(thing, length):
    """Whether any value is a tuple of so many integers."""
    return is_tuple_of(thing, length) and all([is_integer(part) for part in thing])


def are_rows(translator, thing, length):
    """Whether any value is an ascending tuple with just one row of so many integers for each useful state."""
    if not isinstance(thing, tuple) or not all([is_row(row, length) for row in thing]) or not is_ascending(thing):
        return False
    return tuple([row[0] for row in thing]) == translator.useful


def between_holds(translator, thing):
    """Whether any value tells bounds of the leads of all useful states."""
    if not are_rows(translator, thing, 3):
        return False
    low = {state: least for state, least, _ in thing}
    high = {state: most for state, _, most in thing}
    for state, word in translator.begins:
        if state in low and not low[state] <= len(word) <= high[state]:
            return False
    for state, steps in lead_steps(translator).items():
        if not all([low[target] <= low[state] + gain and high[state] + gain <= high[target]
                    for _, gain, target in steps]):
            return False
    return True


def is_loop(translator, state, thing):
    """Whether any value is a loop of a state."""
    if not isinstance(thing, tuple) or thing == ():
        return False
    at = state
    for index in thing:
        if not is_index(index, len(translator.moves)) or translator.moves[index][0] != at:
            return False
        at = translator.moves[index][3]
    return at == state


def loop_holds(translator, run, loop, sign):
    """Whether any two values are a useful partial run and a loop of its last state whose lead has a sign."""
    if not translator.is_partial_run(run):
        return False
    state = translator.last_state(run)
    if state not in translator.useful or not is_loop(translator, state, loop):
        return False
    return sign * sum([len(translator.moves[index][2]) - 1 for index in loop]) > 0


def pace_holds(translator, thing):
    """Whether any value is a pace of a translator."""
    if is_tuple_of(thing, 2) and thing[0] == "between":
        return between_holds(translator, thing[1])
    if not is_tuple_of(thing, 3) or not isinstance(thing[0], str) or thing[0] not in SIGNS:
        return False
    return loop_holds(translator, thing[1], thing[2], SIGNS[thing[0]])


def waiting(translator, run):
    """How many letters are waiting in the pipe behind a partial run, or behind the end of a run."""
    many = len(translator.begins[run[0]][1])
    for index in run[1]:
        many = max(0, many + len(translator.moves[index][2]) - 1)
    return many + len(translator.ends[run[2]][1]) if len(run) == 3 else many


def pipe_room(translator):
    """The greatest number of letters that are waiting in the pipe, or None."""
    if rising_loop(lead_steps(translator), 1) is not None:
        return None
    best, _ = most_waiting(translator, None)
    tails = longest_tails(translator)
    return max([best[state] + tails.get(state, (0, -1))[0] for state in best], default=0)


def pipe_paper(translator, many):
    """A pipe paper with at most so many letters, or a run behind which more are waiting."""
    best, run = most_waiting(translator, many)
    if run is not None:
        return "full", run
    return "pipe", pipe_room(translator), tuple([(state, best[state]) for state in translator.useful])


def pipe_rows_hold(translator, many, thing):
    """Whether any value tells bounds of what is waiting behind all useful states, for a pipe of so many letters."""
    if not are_rows(translator, thing, 2) or not all([0 <= high <= many for _, high in thing]):
        return False
    most = {state: high for state, high in thing}
    for state, word in translator.begins:
        if state in most and most[state] < len(word):
            return False
    for state, steps in lead_steps(translator).items():
        if not all([most[target] >= most[state] + gain for _, gain, target in steps]):
            return False
    return all([most[state] + len(word) <= many for state, word in translator.ends if state in most])


def is_full(translator, many, thing):
    """Whether any value is a useful partial run or a run behind which more than so many letters are waiting."""
    if not translator.is_run(thing):
        if not translator.is_partial_run(thing) or translator.last_state(thing) not in translator.useful:
            return False
    return waiting(translator, thing) > many


def pipe_holds(translator, many, thing):
    """Whether any value is a pipe paper with at most so many letters, or tells a run with more letters waiting."""
    if is_tuple_of(thing, 3) and thing[0] == "pipe":
        return is_integer(thing[1]) and 0 <= thing[1] <= many and pipe_rows_hold(translator, thing[1], thing[2])
    return is_tuple_of(thing, 2) and thing[0] == "full" and is_full(translator, many, thing[1])
