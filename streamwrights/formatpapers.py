"""Papers for two formats: that they have the same texts, or a text of just one of them."""

from streamwrights.formatpairs import first_apart
from streamwrights.formatpairs import pair_behind
from streamwrights.formatpairs import pairs_met
from streamwrights.values import is_ascending
from streamwrights.values import is_index
from streamwrights.values import is_tuple_of


def compared(one, other):
    """A paper for two formats; a text apart is the first one."""
    text = first_apart(one, other)
    if text is not None:
        return "apart", text
    pairs, _, _ = pairs_met(one, other)
    return "same", tuple(sorted(pairs))


def is_place(thing, size):
    """Whether any value is a state of a format of this size, or -1 for nowhere."""
    return is_index(thing, size) or (isinstance(thing, int) and thing == -1)


def is_pair(thing, one, other):
    """Whether any value is a pair of states of two formats, -1 for just one of them at most."""
    if not is_tuple_of(thing, 2) or not is_place(thing[0], one.size) or not is_place(thing[1], other.size):
        return False
    return thing != (-1, -1)


def goes_on(pair, known, one, other, letters):
    """Whether both or none of a pair is an end, and all pairs to which it leads are known."""
    if (pair[0] in one.ends) != (pair[1] in other.ends):
        return False
    behind = [pair_behind(one, other, pair, letter) for letter in letters]
    return all([further == (-1, -1) or further in known for further in behind])


def are_same_pairs(one, other, thing):
    """Whether any value is the tuple of pairs of a paper that two formats have the same texts."""
    if not isinstance(thing, tuple) or not all([is_pair(pair, one, other) for pair in thing]):
        return False
    if not is_ascending(thing) or (0, 0) not in thing:
        return False
    known = {pair: True for pair in thing}
    letters = sorted(set(one.letters + other.letters))
    return all([goes_on(pair, known, one, other, letters) for pair in thing])


def compared_holds(one, other, thing):
    """Whether any value is a paper for two formats."""
    if not is_tuple_of(thing, 2):
        return False
    if thing[0] == "same":
        return are_same_pairs(one, other, thing[1])
    return thing[0] == "apart" and (thing[1] in one) != (thing[1] in other)
