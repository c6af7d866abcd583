"""The texts of translators: their lines, written and read."""

from streamwrights.errors import BadText
from streamwrights.textlines import number_written
from streamwrights.textlines import shown_word
from streamwrights.textlines import word_written
from streamwrights.values import is_letter

# The kinds of lines behind the first one, in their order.
KINDS = ("begin", "move", "end")


def translator_lines(states, begins, moves, ends):
    """The lines of the text of a translator."""
    heads = [f"begin {state} {shown_word(word)}" for state, word in begins]
    steps = [f"move {state} {letter} {shown_word(word)} {target}" for state, letter, word, target in moves]
    tails = [f"end {state} {shown_word(word)}" for state, word in ends]
    return [f"translator {states}", *heads, *steps, *tails]


def states_written(line):
    """The number of states that the first line tells, or None."""
    parts = line.split(" ")
    if len(parts) != 2 or parts[0] != "translator":
        return None
    return number_written(parts[1], 1000)


def pair_written(parts, states):
    """The begin or end that the parts of a line tell, or None."""
    if len(parts) != 3:
        return None
    state = number_written(parts[1], states)
    word = word_written(parts[2])
    return None if state is None or word is None else (state, word)


def move_written(parts, states):
    """The move that the parts of a line tell, or None."""
    if len(parts) != 5 or not is_letter(parts[2]):
        return None
    state = number_written(parts[1], states)
    word = word_written(parts[3])
    target = number_written(parts[4], states)
    if state is None or word is None or target is None:
        return None
    return state, parts[2], word, target


def item_written(line, states, kinds):
    """The place among some kinds and the item that a line behind the first one tells, or None."""
    parts = line.split(" ")
    if parts[0] not in kinds:
        return None
    item = move_written(parts, states) if parts[0] == "move" else pair_written(parts, states)
    return None if item is None else (kinds.index(parts[0]), item)


def read_translator(text):
    """The parts of a text of a translator; raises BadText(place) for any value that is none."""
    if not isinstance(text, str):
        raise BadText(-1)
    return translator_of_lines(text.split("\n"), 0)


def translator_of_lines(lines, start):
    """The parts that lines tell; raises BadText(place), counted from a start, for the first line that is wrong."""
    states = states_written(lines[0]) if lines != [] else None
    if states is None:
        raise BadText(start)
    rows = []
    for at in range(1, len(lines)):
        row = item_written(lines[at], states, KINDS)
        # Rows are compared by their kind first, so lines of a later kind stand behind all others.
        if row is None or (rows != [] and row <= rows[-1]):
            raise BadText(start + at)
        rows.append(row)
    begins, moves, ends = [tuple([item for kind, item in rows if kind == wanted]) for wanted in range(3)]
    return states, begins, moves, ends
