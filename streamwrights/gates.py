"""Gates: whether two lines over the same texts answer alike."""

from streamwrights.errors import NotAlike
from streamwrights.errors import OtherNumber
from streamwrights.errors import OtherTexts
from streamwrights.lines import whole
from streamwrights.parts import parts_of
from streamwrights.sides import read_side
from streamwrights.sure import judge_sure
from streamwrights.tables import Table
from streamwrights.tables import table_of
from streamwrights.textsearch import text_outside
from streamwrights.values import is_tuple_of


def refuse_other_texts(one, other):
    """Raise OtherTexts(text) for two lines whose forms do not have the same texts."""
    text = one.form.parting(other.form)
    if text is not None:
        raise OtherTexts(text)


def unlike_text(one, other):
    """A text for which two lines over the same texts do not answer alike, or None."""
    first = whole(one)
    second = whole(other)
    paper = judge_sure(first | second)
    if paper[0] == "two":
        return paper[1]
    sides = [read_side(parts_of(first)), read_side(parts_of(second))]
    lone = text_outside(sides[0], sides[1])
    return lone if lone is not None else text_outside(sides[1], sides[0])


def refuse_unlike(one, other):
    """Raise OtherTexts(text) or NotAlike(text) for two lines that do not answer alike."""
    refuse_other_texts(one, other)
    text = unlike_text(one, other)
    if text is not None:
        raise NotAlike(text)


def are_alike_lines(one, other):
    """Whether two lines answer alike; raises OtherTexts(text)."""
    refuse_other_texts(one, other)
    return unlike_text(one, other) is None


def judge_gate(one, other):
    """A paper whether two lines answer alike; raises OtherTexts(text)."""
    refuse_other_texts(one, other)
    text = unlike_text(one, other)
    return ("alike", table_of(whole(one))) if text is None else ("unlike", text)


def gate_holds(one, other, thing):
    """Whether any value is a paper whether two lines answer alike; raises OtherTexts(text)."""
    refuse_other_texts(one, other)
    if not is_tuple_of(thing, 2):
        return False
    if thing[0] == "alike":
        return isinstance(thing[1], Table) and judge_gate(one, other) == ("alike", thing[1])
    return thing[0] == "unlike" and thing[1] in one.form and one.comes_to(thing[1]) != other.comes_to(thing[1])


def fault(one, other, text):
    """The index of the first stage at which a text of the forms is not the same, or None.

    Raises OtherTexts(text), then OtherNumber().
    """
    refuse_other_texts(one, other)
    if len(one) != len(other):
        raise OtherNumber()
    first = one.traced(text)
    second = other.traced(text)
    for at in range(1, max(len(first), len(second))):
        if first[at:at + 1] != second[at:at + 1]:
            return at - 1
    return None
