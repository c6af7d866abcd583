"""Expressions for formats, and the machines with their texts."""

from streamwrights.errors import BadText
from streamwrights.subsets import least_of_sets
from streamwrights.values import is_letter

# What is wanted behind a blank that stands behind a part of a bracket of this kind.
BEHIND_BLANK = {"new": "either", "row": "part", "choice": "bar"}


def is_leaf(sign):
    """Whether a character is an expression by itself."""
    return is_letter(sign) or sign == "0" or sign == "1"


def wanted_behind(wanted, kind, sign):
    """What is wanted behind a character where something else was wanted before it, or None if it is wrong there.

    Wanted is a "part" (an expression), "more" (behind an expression), "either" (a part or a bar, where it is
    not told yet what the bracket is), a "bar", or a "blank" (behind a bar). The kind is that of the innermost
    open bracket: "new" (not told yet), "row", "choice", or "none" where no bracket is open.
    """
    if wanted == "part" or wanted == "either":
        if is_leaf(sign):
            return "more"
        if sign == "(":
            return "part"
        return "blank" if wanted == "either" and sign == "|" else None
    if wanted == "bar":
        return "blank" if sign == "|" else None
    if wanted == "blank":
        return "part" if sign == " " else None
    if sign in "*+?":
        return "more"
    if sign == " " and kind != "none":
        return BEHIND_BLANK[kind]
    return "more" if sign == ")" and (kind == "row" or kind == "choice") else None


def wrong_place(text):
    """The index of the first character by which the text begins no expression, its length if just more is missing.

    None for an expression.
    """
    kinds = ["none"]
    wanted = "part"
    for at, sign in enumerate(text):
        further = wanted_behind(wanted, kinds[-1], sign)
        if further is None:
            return at
        if wanted == "either":
            kinds[-1] = "choice" if sign == "|" else "row"
        if sign == "(":
            kinds.append("new")
        elif sign == ")":
            kinds.pop()
        wanted = further
    return None if wanted == "more" and len(kinds) == 1 else len(text)


# A node of an expression is a tuple (empty, firsts, lasts, follows): whether the empty text is one of its texts, the
# places of the letters with which its texts begin and end, and the pairs of places that may stand side by side.


def leaf_node(sign, at):
    """The node of a letter at a place, or of 1 or 0."""
    if is_letter(sign):
        return False, (at,), (at,), ()
    return sign == "1", (), (), ()


def row_node(one, other):
    """The node for texts of one node with texts of another one behind them."""
    firsts = one[1] + other[1] if one[0] else one[1]
    lasts = one[2] + other[2] if other[0] else other[2]
    between = tuple([(last, first) for last in one[2] for first in other[1]])
    return one[0] and other[0], firsts, lasts, one[3] + other[3] + between


def choice_node(one, other):
    """The node for texts of one of two nodes."""
    return one[0] or other[0], one[1] + other[1], one[2] + other[2], one[3] + other[3]


def repeated_node(node, sign):
    """The node of an expression with one of the signs *, + and ? behind it."""
    empty, firsts, lasts, follows = node
    if sign != "?":
        between = tuple([(last, first) for last in lasts for first in firsts])
        follows = tuple(sorted(set(follows + between)))
    return empty or sign != "+", firsts, lasts, follows


def bracket_node(nodes, is_choice):
    """The node of a bracket with some nodes in it."""
    node = nodes[0]
    for further in nodes[1:]:
        node = choice_node(node, further) if is_choice else row_node(node, further)
    return node


def node_of(text):
    """The node of an expression."""
    outer = []
    nodes = []
    is_choice = False
    for at, sign in enumerate(text):
        if sign == "(":
            outer.append((nodes, is_choice))
            nodes = []
            is_choice = False
        elif sign == ")":
            node = bracket_node(nodes, is_choice)
            nodes, is_choice = outer.pop()
            nodes.append(node)
        elif sign == "|":
            is_choice = True
        elif is_leaf(sign):
            nodes.append(leaf_node(sign, at))
        elif sign != " ":
            nodes.append(repeated_node(nodes.pop(), sign))
    return nodes[0]


def expression_machine(text):
    """The least machine with the texts of an expression; raises BadText(place) for any value that is none."""
    if not isinstance(text, str):
        raise BadText(-1)
    place = wrong_place(text)
    if place is not None:
        raise BadText(place)
    empty, firsts, lasts, follows = node_of(text)
    # Each place of a letter is a state, entered by this letter; -1 stands ahead of the first letter.
    moves = [(-1, text[at], at) for at in firsts] + [(last, text[at], at) for last, at in follows]
    return least_of_sets([-1], moves, [*lasts, -1] if empty else lasts)
