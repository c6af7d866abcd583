"""What pieces of texts do with the marks of a table: marks on the way, words, and maps.

A map is a pair of tuples: for each left mark the left mark behind a piece, for each right mark the right mark ahead of
it, None where there is none.
"""


def left_marks(table, left, text):
    """The left marks at all places of a text, from the first one on; None where there is none."""
    marks = [left]
    for letter in text:
        marks.append(table.on(marks[-1], letter))
    return marks


def right_marks(table, text, right):
    """The right marks at all places of a text, from the first one on; None where there is none."""
    marks = [right]
    for letter in reversed(text):
        marks.append(table.back(letter, marks[-1]))
    return marks[::-1]


def words_between(table, text):
    """The words of a piece, for each left mark ahead of it and each right mark behind it that go with it."""
    ways = [left_marks(table, left, text) for left in range(table.lefts)]
    turns = [right_marks(table, text, right) for right in range(table.rights)]
    pairs = [(left, right) for left in range(table.lefts) for right in range(table.rights)
             if table.goes(left, turns[right][0])]
    return {(left, right): "".join([table.word(ways[left][at], letter, turns[right][at + 1])
                                    for at, letter in enumerate(text)]) for left, right in pairs}


def map_of_text(table, text):
    """The map of a piece."""
    ons = [left_marks(table, left, text)[-1] for left in range(table.lefts)]
    backs = [right_marks(table, text, right)[0] for right in range(table.rights)]
    return tuple(ons), tuple(backs)


def joined_map(one, other):
    """The map of a piece with another one behind it, by the maps of both."""
    ons = [None if mark is None else other[0][mark] for mark in one[0]]
    backs = [None if mark is None else one[1][mark] for mark in other[1]]
    return tuple(ons), tuple(backs)


def is_steady_map(one):
    """Whether a map joined to itself is the same."""
    return joined_map(one, one) == one
