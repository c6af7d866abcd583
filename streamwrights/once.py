"""Whether a sure translator is read once, from ahead: what is certain, least readers and papers."""

from streamwrights.certainwords import certain_of_text
from streamwrights.drifts import drift_holds
from streamwrights.errors import Drifts
from streamwrights.leastreaders import least_reader
from streamwrights.loops import found_drift
from streamwrights.readers import Reader
from streamwrights.same import refuse_unsure
from streamwrights.values import is_tuple_of


def certain(translator, text):
    """The certain word of a text, or None if it is no beginning; raises NotSure(paper)."""
    refuse_unsure(translator)
    return certain_of_text(translator, text)


def is_once(translator):
    """Whether a translator is read once; raises NotSure(paper)."""
    refuse_unsure(translator)
    return found_drift(translator) is None


def least_of(translator):
    """The least reader of a sure translator without a drift."""
    parts = least_reader(translator.states, translator.begins, translator.moves, translator.ends)
    return Reader(*parts)


def reader_of(translator):
    """The least reader that does for a translator; raises NotSure(paper), then Drifts(drift)."""
    refuse_unsure(translator)
    shown = found_drift(translator)
    if shown is not None:
        raise Drifts(shown)
    return least_of(translator)


def once(translator):
    """A paper whether a translator is read once; raises NotSure(paper)."""
    refuse_unsure(translator)
    shown = found_drift(translator)
    return ("once", least_of(translator)) if shown is None else ("drift",) + shown


def does_for(reader, translator):
    """Whether a reader has the answers of a sure translator."""
    return found_drift(translator) is None and reader.least() == least_of(translator)


def once_holds(translator, thing):
    """Whether any value is a paper for a translator; raises NotSure(paper)."""
    refuse_unsure(translator)
    if is_tuple_of(thing, 2) and thing[0] == "once":
        return isinstance(thing[1], Reader) and does_for(thing[1], translator)
    return is_tuple_of(thing, 5) and thing[0] == "drift" and drift_holds(translator, thing[1:])
