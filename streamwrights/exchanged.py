"""Translators whose pairs are exchanged: what they write is read, and what they read is written; as plain parts."""

from streamwrights.chains import rows_for
from streamwrights.chains import words_for
from streamwrights.groups import way
from streamwrights.parts import ascending
from streamwrights.parts import trimmed_parts
from streamwrights.sides import END


def silent_steps(states, moves):
    """For each state its steps (letter, word, state) that write nothing."""
    rows = rows_for(moves)
    return {state: [step for step in rows.get(state, ()) if step[1] == ""] for state in range(states)}


def circle(silent):
    """A state and the steps of a loop of it, or None if steps lead no state back to itself."""
    for state in silent:
        for step in silent[state]:
            back = way(silent, [step[2]], {state: True})
            if back is not None:
                return state, [step] + back[1]
    return None


def letters_read(steps):
    """The text that some steps read."""
    return "".join([letter for letter, _, _ in steps])


def words_written(steps):
    """The word that some steps write."""
    return "".join([word for _, word, _ in steps])


def silent_loop(parts):
    """A text, a loop and a rest that are a silent loop, and the word that is an answer of all of them; or None."""
    states, begins, moves, ends = trimmed_parts(*parts)
    found = circle(silent_steps(states, moves))
    if found is None:
        return None
    rows = rows_for(moves)
    steps = {state: rows.get(state, ()) for state in range(states)}
    heads = words_for(begins)
    tails = words_for(ends)
    state, loop = found
    start, ahead = way(steps, list(heads), {state: True})
    _, behind = way(steps, [state], tails)
    last = behind[-1][2] if behind != [] else state
    word = heads[start][0] + words_written(ahead + behind) + tails[last][0]
    return letters_read(ahead), letters_read(loop), letters_read(behind), word


def silent_ways(silent, state):
    """The pairs (text, state) for all ways on from a state on which nothing is written; there is no silent loop."""
    found = [("", state)]
    known = {("", state): True}
    at = 0
    while at < len(found):
        text, last = found[at]
        for letter, _, target in silent[last]:
            if (text + letter, target) not in known:
                known[text + letter, target] = True
                found.append((text + letter, target))
        at += 1
    return found


def writing_steps(states, moves, ends):
    """For each state the triples (word, text, state): the text is read on a way on, the word is what it writes first.

    Behind the end of a run stands END. For each state, too, the texts of the ways to ends on which nothing is written.
    """
    silent = silent_steps(states, moves)
    rows = rows_for(moves)
    tails = words_for(ends)
    steps = {}
    silent_ends = {}
    for state in range(states):
        ways = silent_ways(silent, state)
        onward = [(word, text + letter, target) for text, last in ways for letter, word, target in rows.get(last, ())]
        ending = [(word, text, END) for text, last in ways for word in tails.get(last, ())]
        steps[state] = [step for step in onward + ending if step[0] != ""]
        silent_ends[state] = [text for word, text, _ in ending if word == ""]
    return steps, silent_ends


def exchanged_parts(parts):
    """The parts whose answers of a word are all texts that have this answer; there is no silent loop."""
    states, begins, moves, ends = trimmed_parts(*parts)
    steps, silent_ends = writing_steps(states, moves, ends)
    # A node is a pair (state, rest): the rest of a word that was written ahead of the state is still to be read.
    found = list(begins)
    numbers = {node: number for number, node in enumerate(found)}
    onward = []
    tails = []
    at = 0
    while at < len(found):
        state, rest = found[at]
        further = [(rest, "", state)]
        if rest == "":
            further = steps[state] if state != END else []
            tails.extend([(at, text) for text in (silent_ends[state] if state != END else [""])])
        for word, text, target in further:
            goal = (target, word[1:])
            if goal not in numbers:
                numbers[goal] = len(found)
                found.append(goal)
            onward.append((at, word[0], text, numbers[goal]))
        at += 1
    heads = [(number, "") for number in range(len(begins))]
    return len(found), ascending(heads), ascending(onward), ascending(tails)
