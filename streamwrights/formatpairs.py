"""Two formats side by side: the pairs of states to which texts lead both, -1 standing for nowhere."""

from streamwrights.machines import least_machine


def pairs_met(one, other):
    """The pairs that are met, in the order of their first texts, these texts, and the moves between their numbers."""
    letters = sorted(set(one.letters + other.letters))
    pairs = [(0, 0)]
    firsts = [""]
    numbers = {(0, 0): 0}
    moves = []
    at = 0
    while at < len(pairs):
        for letter in letters:
            pair = pair_behind(one, other, pairs[at], letter)
            if pair != (-1, -1):
                if pair not in numbers:
                    numbers[pair] = len(pairs)
                    pairs.append(pair)
                    firsts.append(firsts[at] + letter)
                moves.append((at, letter, numbers[pair]))
        at += 1
    return pairs, firsts, moves


def pair_behind(one, other, pair, letter):
    """The pair to which a letter leads from a pair."""
    return one.steps.get((pair[0], letter), -1), other.steps.get((pair[1], letter), -1)


def is_chosen(sign, in_one, in_other):
    """Whether a text is one of those that both formats joined by a sign have."""
    if sign == "&":
        return in_one and in_other
    if sign == "|":
        return in_one or in_other
    return in_one and not in_other


def joined_machine(one, other, sign):
    """The least machine for the texts of two formats joined by &, | or -."""
    pairs, _, moves = pairs_met(one, other)
    finals = set(one.ends)
    others = set(other.ends)
    ends = [at for at, pair in enumerate(pairs) if is_chosen(sign, pair[0] in finals, pair[1] in others)]
    return least_machine(len(pairs), moves, ends, 0)


def first_apart(one, other):
    """The first text of just one of two formats, or None."""
    pairs, firsts, _ = pairs_met(one, other)
    finals = set(one.ends)
    others = set(other.ends)
    for pair, text in zip(pairs, firsts):
        if (pair[0] in finals) != (pair[1] in others):
            return text
    return None


def first_beyond(one, other):
    """The first text of one format that is none of the other one, or None."""
    pairs, firsts, _ = pairs_met(one, other)
    finals = set(one.ends)
    others = set(other.ends)
    for pair, text in zip(pairs, firsts):
        if pair[0] in finals and pair[1] not in others:
            return text
    return None
