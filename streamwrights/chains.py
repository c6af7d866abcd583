"""One translator with another one behind it, as plain parts."""

from streamwrights.parts import ascending
from streamwrights.parts import trimmed_parts


def moves_for(moves):
    """For each state and letter the tuple of the pairs (word, state) of its moves."""
    found = {}
    for state, letter, word, target in moves:
        found[state, letter] = found.get((state, letter), ()) + ((word, target),)
    return found


def rows_for(moves):
    """For each state the tuple of the triples (letter, word, state) of its moves."""
    found = {}
    for state, letter, word, target in moves:
        found[state] = found.get(state, ()) + ((letter, word, target),)
    return found


def words_for(pairs):
    """For each state the tuple of the words that stand with it."""
    found = {}
    for state, word in pairs:
        found[state] = found.get(state, ()) + (word,)
    return found


def passed(onward, state, word):
    """The ascending list of pairs (state, what is written) for all ways to read a word from a state."""
    found = [(state, "")]
    for letter in word:
        found = sorted({(target, written + further) for last, written in found
                        for further, target in onward.get((last, letter), ())})
    return found


class Chain:
    """One translator, and another one that reads what it writes; both stand as parts with useful states alone."""

    def __init__(self, one, other):
        self.one = trimmed_parts(*one)
        self.other = trimmed_parts(*other)
        self.onward = moves_for(self.other[2])
        self.tails = words_for(self.other[3])
        self.known = {}

    def ways(self, state, word):
        """All that the other one does with a word from a state on."""
        if (state, word) not in self.known:
            self.known[state, word] = passed(self.onward, state, word)
        return self.known[state, word]

    def heads(self):
        """The begins: pairs of a pair of states and a word."""
        return [((state, last), head + written) for state, word in self.one[1] for second, head in self.other[1]
                for last, written in self.ways(second, word)]

    def endings(self, second, words):
        """What is written at the end from a state of the other one on, if one of some words is still to be read."""
        return [written + tail for word in words for last, written in self.ways(second, word)
                for tail in self.tails.get(last, ())]

    def parts(self):
        """The parts of both one behind the other."""
        begins = self.heads()
        rows = rows_for(self.one[2])
        tails = words_for(self.one[3])
        found = sorted({pair for pair, _ in begins})
        numbers = {pair: number for number, pair in enumerate(found)}
        moves = []
        ends = []
        at = 0
        while at < len(found):
            first, second = found[at]
            for letter, word, target in rows.get(first, ()):
                for last, written in self.ways(second, word):
                    if (target, last) not in numbers:
                        numbers[target, last] = len(found)
                        found.append((target, last))
                    moves.append((at, letter, written, numbers[target, last]))
            ends.extend([(at, word) for word in self.endings(second, tails.get(first, ()))])
            at += 1
        heads = [(numbers[pair], word) for pair, word in begins]
        return trimmed_parts(len(found), ascending(heads), ascending(moves), ascending(ends))
