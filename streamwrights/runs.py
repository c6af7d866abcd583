"""Runs of translators: tuples of indexes of begins, moves and ends."""

from streamwrights.values import is_index
from streamwrights.values import is_tuple_of


def is_begun(translator, begin, path):
    """Whether any two values are the index of a begin, and a tuple of indexes of moves that go on from it."""
    if not is_index(begin, len(translator.begins)) or not isinstance(path, tuple):
        return False
    state = translator.begins[begin][0]
    for index in path:
        if not is_index(index, len(translator.moves)) or translator.moves[index][0] != state:
            return False
        state = translator.moves[index][3]
    return True


def state_behind(translator, begin, path):
    """The last state of a partial run."""
    return translator.moves[path[-1]][3] if path != () else translator.begins[begin][0]


def text_of_run(translator, path):
    """The text of the letters of moves."""
    return "".join([translator.moves[index][1] for index in path])


def word_of_run(translator, begin, path):
    """The word that a partial run writes."""
    return translator.begins[begin][1] + "".join([translator.moves[index][2] for index in path])


def is_whole(translator, thing):
    """Whether any value is a run."""
    if not is_tuple_of(thing, 3) or not is_begun(translator, thing[0], thing[1]):
        return False
    if not is_index(thing[2], len(translator.ends)):
        return False
    return translator.ends[thing[2]][0] == state_behind(translator, thing[0], thing[1])
