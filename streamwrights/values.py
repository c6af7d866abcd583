"""What values are: checks that can be asked of any value."""


def is_integer(thing):
    """Whether a value is an integer; bools are none."""
    return isinstance(thing, int) and not isinstance(thing, bool)


def is_index(thing, size):
    """Whether a value is an integer from 0 to below a size."""
    return is_integer(thing) and 0 <= thing < size


def is_letter(thing):
    """Whether a value is a string of one letter from a to z."""
    return isinstance(thing, str) and len(thing) == 1 and "a" <= thing <= "z"


def is_tuple_of(thing, length):
    """Whether a value is a tuple with so many items."""
    return isinstance(thing, tuple) and len(thing) == length


def is_ascending(rows):
    """Whether each item is later than the one ahead of it, for items that can be compared."""
    return all([rows[at - 1] < rows[at] for at in range(1, len(rows))])
