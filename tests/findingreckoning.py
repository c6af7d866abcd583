"""Findings by the words of the document: with plain reckonings where a few letters tell, for small parts."""

from streamwrights.drifts import room
from streamwrights.errors import BadFormat, BadText, NotSure
from streamwrights.lines import Line
from streamwrights.once import certain
from streamwrights.readers import Reader
from streamwrights.same import are_same
from streamwrights.sure import judge_sure
from streamwrights.tables import table_of
from streamwrights.translators import Translator
from tests import linereckoning, markreckoning, pacereckoning, reckoning
from tests.reckoning import is_word

LOOSE = ("answer", "sure", "two", "drift", "held", "room", "pace", "pipe")
LENGTHS = {"answer": 4, "sure": 3, "two": 5, "same": 3, "parted": 4, "once": 3, "drift": 6, "certain": 4, "held": 4,
           "room": 3, "alike": 6, "unlike": 5, "marks": 4, "cell": 6, "fits": 2, "stops": 4, "comes": 4, "lines": 3,
           "unlike lines": 4, "pace": 3, "pipe": 4}


def read_by(kind, thing):
    if type(thing) is not str:
        return None
    try:
        return kind.read(thing)
    except (BadText, BadFormat, NotSure):
        return None


def is_int(thing):
    return type(thing) is int


def is_sure(translator):
    return judge_sure(translator)[0] == "sure"


def same_kinds(one, other):
    """Whether two values are equal, bools unlike integers."""
    if type(one) is not type(other):
        return False
    if type(one) is tuple:
        return len(one) == len(other) and all(same_kinds(a, b) for a, b in zip(one, other))
    return one == other


def is_drift(translator, text, loop, run, other):
    if not is_word(text) or not is_word(loop) or loop == "":
        return False
    useful = reckoning.useful_states(translator)
    sides = []
    for one in (run, other):
        if not pacereckoning.is_run_of(translator, one, False):
            return False
        if "".join(translator.moves[index][1] for index in one[1]) != text + loop:
            return False
        cut = (one[0], one[1][:len(text)])
        state = pacereckoning.last_state(translator, cut)
        if state != pacereckoning.last_state(translator, one) or state not in useful:
            return False
        sides.append((reckoning.written(translator, cut), reckoning.written(translator, one)))
    return reckoning.delay_of(sides[0][0], sides[1][0]) != reckoning.delay_of(sides[0][1], sides[1][1])


def of_two(one, other):
    return other is not None and is_sure(other) and are_same(one, other)


def of_parted(one, other, text):
    if other is None or not is_sure(other) or not is_word(text):
        return False
    return reckoning.answers(one, text) != reckoning.answers(other, text)


def of_reader(one, reader):
    if reader is None:
        return False
    letters = "".join(sorted(set(one.letters) | {move[1] for move in reader.moves})) or "a"
    texts = reckoning.all_texts(letters, 6 if len(letters) < 3 else 4)
    return all((reader.told(text),) == (reckoning.answers(one, text) or (None,)) for text in texts)


def of_cell(one, text, letter, rest, word):
    if not is_word(text) or not reckoning.is_letter(letter) or not is_word(rest) or not is_word(word):
        return False
    table = table_of(one)
    return table.word(table.left_mark(text), letter, table.right_mark(rest)) == word


def of_translator(kind, one, parts):
    """Whether a finding on a translator holds; of a sure one, but for the loose kinds."""
    if kind == "answer":
        return is_word(parts[0]) and is_word(parts[1]) and parts[1] in reckoning.answers(one, parts[0])
    if kind == "sure":
        return same_kinds(judge_sure(one), ("sure", parts[0]))
    if kind == "two":
        return (all(is_word(part) for part in parts) and parts[1] != parts[2]
                and set(parts[1:]) <= set(reckoning.answers(one, parts[0])))
    if kind == "drift":
        return is_drift(one, *parts)
    if kind == "held":
        return is_word(parts[0]) and is_int(parts[1]) and reckoning.held(one, parts[0]) == parts[1]
    if kind == "room":
        return same_kinds(room(one), parts[0])
    if kind == "pace":
        return pacereckoning.is_pace(one, parts[0])
    if kind == "pipe":
        return is_int(parts[0]) and parts[0] >= 0 and pacereckoning.is_pipe(one, parts[0], parts[1])
    if kind == "same":
        return of_two(one, read_by(Translator, parts[0]))
    if kind == "parted":
        return of_parted(one, read_by(Translator, parts[0]), parts[1])
    if kind == "once":
        return of_reader(one, read_by(Reader, parts[0]))
    if kind == "certain":
        return is_word(parts[0]) and is_word(parts[1]) and certain(one, parts[0]) == parts[1]
    if kind == "marks":
        table = table_of(one)
        return same_kinds((table.lefts, table.rights), parts)
    if kind == "cell":
        return of_cell(one, *parts)
    if not is_word(parts[0]) or not is_word(parts[1]):
        return False
    if not markreckoning.completers(one, parts[0]) or not markreckoning.completers(one, parts[1]):
        return False
    if kind == "alike":
        return markreckoning.is_alike_paper(one, parts[0], parts[1], ("alike",) + parts[2:])
    return markreckoning.is_unlike_paper(one, parts[0], parts[1], parts[2])


def of_line(kind, line, parts):
    texts = reckoning.all_texts("".join(sorted(line.form.letters)) or "a", 5)
    if kind == "fits":
        return all(linereckoning.stops_at(line, text) is None for text in texts)
    if kind == "stops":
        return linereckoning.is_stop(line, ("stops",) + parts)
    if kind == "comes":
        return is_word(parts[0]) and is_word(parts[1]) and linereckoning.comes_to(line, parts[0]) == parts[1]
    other = read_by(Line, parts[0])
    if other is None or line.form.parting(other.form) is not None:
        return False
    if kind == "lines":
        return all(linereckoning.comes_to(line, text) == linereckoning.comes_to(other, text) for text in texts)
    text = parts[1]
    return (is_word(text) and reckoning.has_text(line.form, text)
            and linereckoning.comes_to(line, text) != linereckoning.comes_to(other, text))


def holds(thing):
    """Whether any value is a finding that holds."""
    if type(thing) is not tuple or not thing or type(thing[0]) is not str or LENGTHS.get(thing[0]) != len(thing):
        return False
    kind, text, *parts = thing
    if kind in ("fits", "stops", "comes", "lines", "unlike lines"):
        line = read_by(Line, text)
        return line is not None and of_line(kind, line, tuple(parts))
    one = read_by(Translator, text)
    if one is None or (kind not in LOOSE and not is_sure(one)):
        return False
    return of_translator(kind, one, tuple(parts))
