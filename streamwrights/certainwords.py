"""What is certain while a sure translator reads: all runs of one text to one useful state write one word."""

from streamwrights.parts import kept_parts
from streamwrights.pushed import shared_of_parts
from streamwrights.words import common_prefix


def shared_of(translator):
    """For each useful state what all ways from it to an end write first."""
    useful = translator.useful
    _, _, moves, ends = kept_parts(translator.begins, translator.moves, translator.ends, useful)
    shared = shared_of_parts(moves, ends)
    return {state: shared[number] for number, state in enumerate(useful)}


def first_stand(translator, states):
    """For each of some states where the empty text leads the word that is written there."""
    return {state: word for state, word in translator.begins if state in states}


def stand_behind(translator, states, stand, letter):
    """For each of some states where a letter leads from a stand the word that is written there."""
    further = {}
    for state in stand:
        for index in translator.onward.get((state, letter), ()):
            _, _, word, target = translator.moves[index]
            if target in states:
                further[target] = stand[state] + word
    return further


def certain_at(shared, stand):
    """The certain word of a beginning with a stand, or None if the stand is that of no beginning."""
    words = [stand[state] + shared[state] for state in stand]
    return common_prefix(*words) if words != [] else None


def certain_of_text(translator, text):
    """The certain word of a text, or None if it is no beginning."""
    shared = shared_of(translator)
    stand = first_stand(translator, shared)
    for letter in text:
        stand = stand_behind(translator, shared, stand, letter)
    return certain_at(shared, stand)
