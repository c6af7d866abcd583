"""What pieces of texts do with the marks of a table: marks on the way, words, and maps.

A map is a pair of tuples: for each left mark the left mark behind a piece, for each right mark the right mark ahead of
it, None where there is none.
"""


def left_marks(table, left, text):
    """The left marks at all places of a text, from the first one on; None where there is none."""
    marks = [left]
    for letter in text:
        marks.append(table.on(marks[-1], letter))
    return marks


def right_marks(table, text, right):
    """The right marks at all places of a text, from the first one on; None where there is none."""
    marks = [right]
    for letter in reversed(text):
        marks.append(table.back(letter, marks[-1]))
    return marks[::-1]


def word_between(table, left, text, right):
    """The words of the letters of a text between two marks, one behind the other, or None."""
    lefts = left_marks(table, left, text)
    rights = right_marks(table, text, right)
    if not table.goes(left, rights[0]):
        return None
    return "".join([table.word(lefts[at], letter, rights[at + 1]) for at, letter in enumerate(text)])


def map_of_text(table, text):
    """The map of a piece."""
    ons = [left_marks(table, left, text)[-1] for left in range(table.lefts)]
    backs = [right_marks(table, text, right)[0] for right in range(table.rights)]
    return tuple(ons), tuple(backs)


def joined_map(one, other):
    """The map of a piece with another one behind it, by the maps of both."""
    ons = [None if mark is None else other[0][mark] for mark in one[0]]
    backs = [None if mark is None else one[1][mark] for mark in other[1]]
    return tuple(ons), tuple(backs)


def is_steady_map(one):
    """Whether a map joined to itself is the same."""
    return joined_map(one, one) == one
