"""Whether two sure translators have the same answers."""

from streamwrights.errors import NotSure
from streamwrights.sure import judge_sure


def refuse_unsure(translator):
    """Raise NotSure(paper) for a translator that is not sure."""
    paper = judge_sure(translator)
    if paper[0] == "two":
        raise NotSure(paper)


def parting_text(one, other):
    """A shortest text that parts two translators, or None; raises NotSure(paper)."""
    refuse_unsure(one)
    refuse_unsure(other)
    return parting_of_sure(one, other)


def parting_of_sure(one, other):
    """A shortest text that parts two sure translators, or None."""
    lone = one.domain().parting(other.domain())
    paper = judge_sure(one | other)
    if paper[0] == "sure":
        return lone
    return paper[1] if lone is None or len(paper[1]) < len(lone) else lone


def are_same(one, other):
    """Whether two translators are the same; raises NotSure(paper)."""
    return parting_text(one, other) is None
