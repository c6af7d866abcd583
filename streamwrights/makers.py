"""Translators made from formats and from spellings."""

from streamwrights.parts import filter_parts
from streamwrights.translators import Translator


def filter_of(form):
    """A translator that has each text of a format as its own answer."""
    parts = filter_parts(form.size, form.moves, form.ends)
    return Translator(*parts)


def spelled(pairs):
    """A translator that writes for each letter of a text the word that a spelling pairs with it."""
    moves = tuple([(0, letter, word, 0) for letter, word in pairs])
    return Translator(1, ((0, ""),), moves, ((0, ""),))
