"""Parts of the lines of which the texts of objects consist."""

from streamwrights.words import is_word

DIGITS = "0123456789"


def number_written(part, size):
    """The integer below a size that a part writes as Python writes it, or None."""
    # No number here has more than three digits, so longer parts need not be turned into integers.
    if part == "" or len(part) > 3 or (part[0] == "0" and part != "0"):
        return None
    if not all([sign in DIGITS for sign in part]) or int(part) >= size:
        return None
    return int(part)


def shown_word(word):
    """A word as it stands in a line."""
    return word if word != "" else "-"


def word_written(part):
    """The word that a part of a line writes, or None."""
    if part == "-":
        return ""
    return part if part != "" and is_word(part) else None
