"""What all ways to an end write first: it is written as early as it is certain."""

from streamwrights.chains import words_for
from streamwrights.parts import trimmed_parts
from streamwrights.words import common_prefix


def sources_of(steps):
    """For each node that steps lead to the tuple of the pairs (node, word) of these steps."""
    sources = {}
    for node in steps:
        for word, target in steps[node]:
            sources[target] = sources.get(target, ()) + ((node, word),)
    return sources


def some_words(tails, sources):
    """For each node the word that some way from it to an end writes."""
    found = {}
    for node in tails:
        found[node] = tails[node][0]
    met = list(found)
    at = 0
    while at < len(met):
        node = met[at]
        for source, word in sources.get(node, ()):
            if source not in found:
                found[source] = word + found[node]
                met.append(source)
        at += 1
    return found


def shared_words(tails, steps):
    """For each node what all ways from it to an end write first.

    Nodes have tuples of steps (word, node), and ends tuples of tails; from each node some end is met.
    """
    sources = sources_of(steps)
    found = {}
    for node, word in some_words(tails, sources).items():
        found[node] = word
    waiting = list(found)
    while waiting:
        node = waiting.pop()
        onward = [word + found[target] for word, target in steps.get(node, ())]
        words = [found[node]] + list(tails.get(node, ())) + onward
        common = common_prefix(*words)
        if common != found[node]:
            found[node] = common
            waiting.extend([source for source, _ in sources.get(node, ())])
    return found


def shared_of_parts(moves, ends):
    """For each state of a translator with useful states alone what all ways from it to an end write first."""
    steps = {}
    for state, _, word, target in moves:
        steps[state] = steps.get(state, ()) + ((word, target),)
    return shared_words(words_for(ends), steps)


def pushed_parts(states, begins, moves, ends):
    """The parts with useful states alone, and each word written as early as all ways to an end agree on it."""
    many, heads, steps, tails = trimmed_parts(states, begins, moves, ends)
    shared = shared_of_parts(steps, tails)
    starts = [(state, word + shared[state]) for state, word in heads]
    onward = [(state, letter, (word + shared[target])[len(shared[state]):], target)
              for state, letter, word, target in steps]
    last = [(state, word[len(shared[state]):]) for state, word in tails]
    return many, tuple(starts), tuple(onward), tuple(last)
