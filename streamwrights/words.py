"""Words: strings of letters from a to z, perhaps empty."""


def is_word(thing):
    """Whether any value is a word."""
    return isinstance(thing, str) and all(["a" <= letter <= "z" for letter in thing])


def common_prefix(*words):
    """The longest word with which all of one or more words begin."""
    # All words lie between the least and the greatest one, so what these two share all share.
    low = min(words)
    high = max(words)
    length = 0
    while length < len(low) and low[length] == high[length]:
        length += 1
    return low[:length]


def delay(one, other):
    """What is left of two words behind their common prefix."""
    length = len(common_prefix(one, other))
    return one[length:], other[length:]
