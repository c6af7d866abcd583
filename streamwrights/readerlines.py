"""The texts of readers: their lines, written and read."""

from streamwrights.errors import BadText
from streamwrights.textlines import number_written
from streamwrights.textlines import shown_word
from streamwrights.textlines import word_written
from streamwrights.translatorlines import item_written

# The kinds of lines behind the first one, in their order.
KINDS = ("move", "tail")


def reader_lines(states, head, moves, tails):
    """The lines of the text of a reader."""
    steps = [f"move {state} {letter} {shown_word(word)} {target}" for state, letter, word, target in moves]
    last = [f"tail {state} {shown_word(word)}" for state, word in tails]
    return [f"reader {states} {shown_word(head)}", *steps, *last]


def head_written(line):
    """The number of states and the head that the first line tells, or None."""
    parts = line.split(" ")
    if len(parts) != 3 or parts[0] != "reader":
        return None
    states = number_written(parts[1], 1000)
    head = word_written(parts[2])
    if states is None or head is None or (states == 0 and head != ""):
        return None
    return states, head


def is_later(row, last):
    """Whether a line may stand behind another one: later in order, and no second one for the same."""
    if row <= last:
        return False
    length = 2 if row[0] == 0 else 1
    return row[0] != last[0] or row[1][:length] != last[1][:length]


def read_reader(text):
    """The parts of a text of a reader; raises BadText(place) for any value that is none."""
    if not isinstance(text, str):
        raise BadText(-1)
    lines = text.split("\n")
    start = head_written(lines[0])
    if start is None:
        raise BadText(0)
    rows = []
    for at in range(1, len(lines)):
        row = item_written(lines[at], start[0], KINDS)
        if row is None or (rows != [] and not is_later(row, rows[-1])):
            raise BadText(at)
        rows.append(row)
    moves, tails = [tuple([item for kind, item in rows if kind == wanted]) for wanted in range(2)]
    return start[0], start[1], moves, tails
