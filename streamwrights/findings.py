"""Findings: what is said of translators, lines and readers, given as their texts."""

from streamwrights.drifts import drift_holds
from streamwrights.drifts import held
from streamwrights.drifts import room
from streamwrights.errors import BadFormat
from streamwrights.errors import BadText
from streamwrights.errors import NotSure
from streamwrights.gates import gate_holds
from streamwrights.gates import unlike_text
from streamwrights.lines import Line
from streamwrights.lines import fits_holds
from streamwrights.lines import is_fitting
from streamwrights.marks import alike_holds
from streamwrights.once import certain
from streamwrights.once import once_holds
from streamwrights.paces import pace_holds
from streamwrights.paces import pipe_holds
from streamwrights.readers import Reader
from streamwrights.readings import has_answer
from streamwrights.same import are_same
from streamwrights.sure import answer
from streamwrights.sure import is_sure
from streamwrights.sure import sure_holds
from streamwrights.tables import table_of
from streamwrights.translators import Translator
from streamwrights.values import is_integer
from streamwrights.values import is_letter
from streamwrights.words import is_word


def translator_read(thing):
    """The translator with a text, None for any value that is none."""
    try:
        return Translator.read(thing)
    except BadText:
        return None


def reader_read(thing):
    """The reader with a text, None for any value that is none."""
    try:
        return Reader.read(thing)
    except BadText:
        return None


def line_read(thing):
    """The line with a text, None for any value that is none."""
    try:
        return Line.read(thing)
    except (BadText, BadFormat, NotSure):
        return None


def are_words(things):
    """Whether any values are words."""
    return all([is_word(thing) for thing in things])


# Of each finding behind its first translator or line, which is read already, the other parts.


def answer_holds(one, parts):
    """Whether a text has an answer."""
    return are_words(parts) and has_answer(one, parts[0], parts[1])


def is_sure_finding(one, parts):
    """Whether a translator is sure, by a table of delays."""
    return sure_holds(one, ("sure", parts[0]))


def two_holds(one, parts):
    """Whether a text has two answers."""
    return sure_holds(one, ("two",) + parts)


def same_holds(one, parts):
    """Whether another translator has the same answers."""
    other = translator_read(parts[0])
    return other is not None and is_sure(other) and are_same(one, other)


def parted_holds(one, parts):
    """Whether a text parts two translators."""
    other = translator_read(parts[0])
    if other is None or not is_sure(other) or not is_word(parts[1]):
        return False
    return answer(one, parts[1]) != answer(other, parts[1])


def reader_holds(one, parts):
    """Whether a reader does for a translator."""
    reader = reader_read(parts[0])
    return reader is not None and once_holds(one, ("once", reader))


def drift_finding_holds(one, parts):
    """Whether a translator has a drift."""
    return drift_holds(one, parts)


def certain_holds(one, parts):
    """Whether a beginning has a certain word."""
    return are_words(parts) and certain(one, parts[0]) == parts[1]


def held_holds(one, parts):
    """Whether so many letters are held at a beginning."""
    return is_word(parts[0]) and is_integer(parts[1]) and held(one, parts[0]) == parts[1]


def room_holds(one, parts):
    """Whether a translator has a room."""
    return (parts[0] is None or is_integer(parts[0])) and room(one) == parts[0]


def like_rests_hold(one, parts):
    """Whether two rests are alike, by sets and delays."""
    return are_words(parts[:2]) and alike_holds(one, parts[0], parts[1], ("alike",) + parts[2:])


def unlike_rests_hold(one, parts):
    """Whether two rests are not alike, by a text or a drift."""
    v, w, paper = parts
    if not are_words((v, w)) or not isinstance(paper, tuple) or paper == () or paper[0] == "alike":
        return False
    return alike_holds(one, v, w, paper)


def marks_hold(one, parts):
    """Whether there are so many left and right marks."""
    if not all([is_integer(part) for part in parts]):
        return False
    table = table_of(one)
    return (table.lefts, table.rights) == parts


def cell_holds(one, parts):
    """Whether a table has a word between the marks of a text and of a rest."""
    text, letter, rest, word = parts
    if not are_words((text, rest, word)) or not is_letter(letter):
        return False
    table = table_of(one)
    return table.word(table.left_mark(text), letter, table.right_mark(rest)) == word


def fitting_holds(line, parts):
    """Whether a line fits."""
    return len(parts) == 0 and is_fitting(line)


def stopping_holds(line, parts):
    """Whether a text stops at a stage."""
    return fits_holds(line, ("stops",) + parts)


def coming_holds(line, parts):
    """Whether a text comes to an answer."""
    return are_words(parts) and line.comes_to(parts[0]) == parts[1]


def alike_lines_hold(line, parts):
    """Whether another line answers alike."""
    other = line_read(parts[0])
    return other is not None and line.form.is_same(other.form) and unlike_text(line, other) is None


def unlike_lines_hold(line, parts):
    """Whether a text shows that another line does not answer alike."""
    other = line_read(parts[0])
    if other is None or not line.form.is_same(other.form):
        return False
    return gate_holds(line, other, ("unlike", parts[1]))


def pace_finding_holds(one, parts):
    """Whether a translator has a pace."""
    return pace_holds(one, parts[0])


def pipe_finding_holds(one, parts):
    """Whether there is a pipe paper for a number."""
    return is_integer(parts[0]) and parts[0] >= 0 and pipe_holds(one, parts[0], parts[1])


# The number of parts of each finding, and what tells whether it holds: of any translator, of a sure one, and of a line.
ANY_KINDS = {"answer": (4, answer_holds), "sure": (3, is_sure_finding), "two": (5, two_holds),
             "drift": (6, drift_finding_holds), "held": (4, held_holds), "room": (3, room_holds),
             "pace": (3, pace_finding_holds), "pipe": (4, pipe_finding_holds)}
SURE_KINDS = {"same": (3, same_holds), "parted": (4, parted_holds), "once": (3, reader_holds),
              "certain": (4, certain_holds), "alike": (6, like_rests_hold), "unlike": (5, unlike_rests_hold),
              "marks": (4, marks_hold), "cell": (6, cell_holds)}
LINE_KINDS = {"fits": (2, fitting_holds), "stops": (4, stopping_holds), "comes": (4, coming_holds),
              "lines": (3, alike_lines_hold), "unlike lines": (4, unlike_lines_hold)}


def is_of_translator(thing):
    """Whether a tuple that begins with a string is a finding on a translator that holds."""
    loose = ANY_KINDS.get(thing[0])
    row = loose if loose is not None else SURE_KINDS.get(thing[0])
    one = translator_read(thing[1]) if row is not None and len(thing) == row[0] else None
    if one is None or (loose is None and not is_sure(one)):
        return False
    holds = row[1]
    return holds(one, thing[2:])


def is_of_line(thing):
    """Whether a tuple that begins with a string is a finding on a line that holds."""
    row = LINE_KINDS.get(thing[0])
    line = line_read(thing[1]) if row is not None and len(thing) == row[0] else None
    if line is None:
        return False
    holds = row[1]
    return holds(line, thing[2:])


def finding_holds(thing):
    """Whether any value is a finding that holds."""
    if not isinstance(thing, tuple) or len(thing) < 2 or not isinstance(thing[0], str):
        return False
    return is_of_translator(thing) or is_of_line(thing)
