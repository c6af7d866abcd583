"""The texts of formats: their lines, written and read."""

from streamwrights.errors import BadText
from streamwrights.textlines import number_written
from streamwrights.values import is_ascending
from streamwrights.values import is_letter


def format_lines(size, moves, ends):
    """The lines of the text of a format."""
    shown = " ".join([str(state) for state in ends]) if ends != () else "-"
    steps = [f"move {state} {letter} {target}" for state, letter, target in moves]
    return [f"format {size}", f"ends {shown}", *steps]


def size_written(line):
    """The size that the first line tells, or None."""
    parts = line.split(" ")
    if len(parts) != 2 or parts[0] != "format":
        return None
    size = number_written(parts[1], 1000)
    return size if size != 0 else None


def ends_written(line, size):
    """The ends that the second line tells, or None."""
    parts = line.split(" ")
    if parts[0] != "ends" or len(parts) == 1:
        return None
    if parts[1:] == ["-"]:
        return ()
    ends = tuple([number_written(part, size) for part in parts[1:]])
    if any([state is None for state in ends]) or not is_ascending(ends):
        return None
    return ends


def move_written(line, size):
    """The move that a further line tells, or None."""
    parts = line.split(" ")
    if len(parts) != 4 or parts[0] != "move" or not is_letter(parts[2]):
        return None
    state = number_written(parts[1], size)
    target = number_written(parts[3], size)
    return None if state is None or target is None else (state, parts[2], target)


def read_format(text):
    """The size, moves and ends of a text of a format; raises BadText(place) for any value that is none."""
    if not isinstance(text, str):
        raise BadText(-1)
    return format_of_lines(text.split("\n"), 0)


def format_of_lines(lines, start):
    """The parts that lines tell; raises BadText(place), counted from a start, for the first line that is wrong."""
    size = size_written(lines[0]) if lines != [] else None
    if size is None:
        raise BadText(start)
    ends = ends_written(lines[1], size) if len(lines) > 1 else None
    if ends is None:
        raise BadText(start + 1)
    moves = []
    for at in range(2, len(lines)):
        move = move_written(lines[at], size)
        if move is None or (moves != [] and move <= moves[-1]):
            raise BadText(start + at)
        moves.append(move)
    return size, tuple(moves), ends
