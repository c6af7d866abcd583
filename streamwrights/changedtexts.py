"""Texts that a translator does not lead to themselves."""

from streamwrights.chains import rows_for
from streamwrights.chains import words_for
from streamwrights.parts import trimmed_parts
from streamwrights.words import delay


def text_changed(parts):
    """A text that has another answer than itself by some parts, or None."""
    # Of a state with two delays of what is read and what is written, whatever leads on to an end writes another word
    # than it reads behind one of them; so two delays for each state are enough.
    states, begins, moves, ends = trimmed_parts(*parts)
    rows = rows_for(moves)
    tails = words_for(ends)
    known = {state: {} for state in range(states)}
    found = [(state, "", word, "") for state, word in begins]
    at = 0
    while at < len(found):
        state, left, right, text = found[at]
        if (left, right) not in known[state] and len(known[state]) < 2:
            known[state][left, right] = True
            if any([left != right + word for word in tails.get(state, ())]):
                return text
            for letter, word, target in rows.get(state, ()):
                found.append((target,) + delay(left + letter, right + word) + (text + letter,))
        at += 1
    return None
