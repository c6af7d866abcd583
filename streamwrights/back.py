"""Ways back: from answers to texts."""

from streamwrights.chains import Chain
from streamwrights.changedtexts import text_changed
from streamwrights.errors import Silent
from streamwrights.errors import Twins
from streamwrights.exchanged import exchanged_parts
from streamwrights.exchanged import silent_loop
from streamwrights.formats import Format
from streamwrights.machines import other_machine
from streamwrights.machines import word_machine
from streamwrights.parts import filter_parts
from streamwrights.parts import parts_of
from streamwrights.readings import has_answer
from streamwrights.readings import words_used
from streamwrights.same import parting_of_sure
from streamwrights.same import refuse_unsure
from streamwrights.sides import loose_filter
from streamwrights.sides import read_side
from streamwrights.sides import written_side
from streamwrights.subsets import least_of_sets
from streamwrights.sure import judge_sure
from streamwrights.textsearch import first_text_led
from streamwrights.textsearch import text_outside
from streamwrights.translators import Translator
from streamwrights.values import is_tuple_of
from streamwrights.words import is_word


def format_of(side):
    """The least format with the texts of a loose machine."""
    machine = least_of_sets(*side)
    return Format(*machine)


def side_before(translator, size, moves, ends):
    """The loose machine of the texts that have an answer which is a text of a machine."""
    return read_side(Chain(parts_of(translator), filter_parts(size, moves, ends)).parts())


def parts_within(translator, form):
    """The parts with the answers of just those texts that are texts of a format."""
    return Chain(filter_parts(form.size, form.moves, form.ends), parts_of(translator)).parts()


def before(translator, form):
    """The least format of the texts that have an answer which is a text of a format."""
    return format_of(side_before(translator, form.size, form.moves, form.ends))


def behind(translator, form):
    """The least format of all answers of the texts of a format."""
    return format_of(written_side(parts_within(translator, form)))


def image(translator):
    """The least format of all answers."""
    return format_of(written_side(parts_of(translator)))


def sources(translator, answer):
    """The least format of the texts that have an answer."""
    machine = word_machine(answer)
    return format_of(side_before(translator, *machine))


def first_source(translator, answer):
    """The first text that has an answer, or None."""
    machine = word_machine(answer)
    side = side_before(translator, *machine)
    return first_text_led(*side)


def exchanged(translator):
    """The translator with all pairs exchanged; there is no silent loop."""
    parts = exchanged_parts(parts_of(translator))
    return Translator(*parts)


def turned(translator):
    """A translator whose answers of a word are its sources; raises Silent(text, loop, rest)."""
    found = silent_loop(parts_of(translator))
    if found is not None:
        raise Silent(found[0], found[1], found[2])
    return exchanged(translator)


def judge_back(translator):
    """A paper whether a translator is one to one."""
    found = silent_loop(parts_of(translator))
    if found is not None:
        text, loop, rest, word = found
        return "twins", text + rest, text + loop + rest, word
    other = exchanged(translator)
    paper = judge_sure(other)
    return ("back", other) if paper[0] == "sure" else ("twins", paper[2], paper[3], paper[1])


def is_one_to_one(translator):
    """Whether no two unlike texts have a common answer."""
    return judge_back(translator)[0] == "back"


def way_back(translator):
    """A translator that leads each word of the image to its source; raises Twins(text, other, answer)."""
    paper = judge_back(translator)
    if paper[0] == "twins":
        raise Twins(paper[1], paper[2], paper[3])
    return paper[1]


def leads_back(translator, other):
    """Whether another translator answers each word of the image, and leads no answer of a text to another text."""
    if text_outside(written_side(parts_of(translator)), read_side(parts_of(other))) is not None:
        return False
    return text_changed(Chain(parts_of(translator), parts_of(other)).parts()) is None


def are_twins(translator, text, other, word):
    """Whether any three values are two unlike texts and an answer of both."""
    if not is_word(text) or not is_word(other) or not is_word(word) or text == other:
        return False
    return has_answer(translator, text, word) and has_answer(translator, other, word)


def back_holds(translator, thing):
    """Whether any value is a paper whether a translator is one to one."""
    if is_tuple_of(thing, 2) and thing[0] == "back":
        return isinstance(thing[1], Translator) and leads_back(translator, thing[1])
    return is_tuple_of(thing, 4) and thing[0] == "twins" and are_twins(translator, thing[1], thing[2], thing[3])


def unsettled(translator):
    """An answer that has not just itself as an answer, or None."""
    side = written_side(parts_of(translator))
    lone = text_outside(side, read_side(parts_of(translator)))
    if lone is not None:
        return lone
    answered = loose_filter(*side)
    return text_changed(Chain(answered, parts_of(translator)).parts())


def settles(translator):
    """Whether each answer has itself as its only answer."""
    return unsettled(translator) is None


def unlike_order(one, other):
    """A text to which two sure translators do not do the same in both orders, or None; raises NotSure(paper)."""
    refuse_unsure(one)
    refuse_unsure(other)
    return parting_of_sure(one.through(other), other.through(one))


def change_places(one, other):
    """Whether two sure translators do the same in both orders; raises NotSure(paper)."""
    return unlike_order(one, other) is None


def lost(translator, form):
    """The first text of a format that has an answer which is no text of it, or None."""
    written = sorted(set("".join(words_used(translator))))
    size, moves, ends = other_machine(form.size, form.moves, form.ends, written)
    side = read_side(Chain(parts_within(translator, form), filter_parts(size, moves, ends)).parts())
    return first_text_led(*side)


def keeps(translator, form):
    """Whether all answers of texts of a format are texts of it."""
    return lost(translator, form) is None
