"""Lines by plain reckonings: stage by stage, by the answers of texts; and small lines to ask about."""

import random

from streamwrights.formats import Format
from streamwrights.lines import Line, is_fitting, whole
from streamwrights.sure import is_sure
from streamwrights.translators import Translator
from tests.reckoning import (all_texts, answers, has_text, is_number, is_word, prefix_of_all, random_format,
                             random_reading, random_sure)

TEXTS = all_texts("ab", 5)


def traced(line, text):
    if not has_text(line.form, text):
        return ()
    words = [text]
    for stage in line.stages:
        found = answers(stage, words[-1])
        if not found:
            break
        words.append(found[0])
    return tuple(words)


def comes_to(line, text):
    words = traced(line, text)
    return words[-1] if len(words) == len(line.stages) + 1 else None


def stops_at(line, text):
    words = traced(line, text)
    return len(words) - 1 if 0 < len(words) <= len(line.stages) else None


def is_stop(line, thing):
    """Whether any value is a paper that a line does not fit."""
    if type(thing) is not tuple or len(thing) != 3 or thing[0] != "stops":
        return False
    return is_number(thing[1], len(line.stages)) and is_word(thing[2]) and stops_at(line, thing[2]) == thing[1]


def fault(one, other, text):
    """The fault of a text, stage by stage."""
    first, second = traced(one, text), traced(other, text)
    for at in range(len(one.stages)):
        words = [trace[at + 1] if len(trace) > at + 1 else None for trace in (first, second)]
        if words[0] != words[1]:
            return at
        if words[0] is None:
            return None
    return None


def certain(known, text):
    """What all answers of known texts begin with that begin with a text, or None."""
    words = [word for further, word in known.items() if further.startswith(text)]
    return prefix_of_all(words) if words else None


def random_line(rng, most_stages=3, most_states=2, letters="ab"):
    form = random_format(rng, most_states=3, letters=letters)
    stages = tuple(random_sure(rng, letters=letters, out=letters, most_states=most_states, most_word=1 + rng.randrange(2))
                   for _ in range(rng.randint(1, most_stages)))
    return Line(form, stages)


def fitted(line):
    """The line for just those texts that come to something."""
    return line.within(whole(line).domain())


def injective_stage(rng):
    """A stage that loses no letter, so that many of its lines are one to one."""
    kind = rng.randrange(3)
    if kind == 0:
        return Translator(1, ((0, rng.choice(["", "a"])),), ((0, "a", rng.choice(["b", "ab", "a"]), 0),
                                                             (0, "b", rng.choice(["a", "bb", "b"]), 0)), ((0, ""),))
    if kind == 1:
        # Each letter is written behind the one that is read next.
        return Translator(3, ((0, ""),), ((0, "a", "", 1), (0, "b", "", 2), (1, "a", "a", 1), (1, "b", "a", 2),
                                          (2, "a", "b", 1), (2, "b", "b", 2)), ((0, ""), (1, "a"), (2, "b")))
    return random_reading(rng, letters="ab", out="ab").turned_round()


def small_lines(seed, many, most_whole=24):
    """Lines with texts whose wholes are small."""
    rng = random.Random(seed)
    found = []
    while len(found) < many:
        line = random_line(rng)
        if rng.random() < 0.3:
            line = Line(line.form, tuple(injective_stage(rng) for _ in line.stages))
        if sum(len(stage) for stage in line.stages) < 16 and len(whole(line)) <= most_whole:
            if rng.random() < 0.1 or line.form.first_text() is not None:
                found.append(line)
    return found


def fitting_lines(seed, many):
    """Lines that fit, most of them with texts."""
    found = []
    for line in small_lines(seed, 6 * many):
        line = fitted(line)
        if len(found) < many and (line.form.first_text() is not None or len(found) % 10 == 9) and is_fitting(line):
            found.append(line)
    return found


ANY = Format(1, ((0, "a", 0), (0, "b", 0)), (0,))
EMPTY_FORM = Format(1, (), ())


def like_lines(rng, line):
    """Some lines that answer as a line does."""
    yield Line(line.form, line.stages)
    yield Line(line.form.least(), line.stages)
    at = rng.randrange(len(line.stages))
    stage = line.stages[at]
    yield line.with_stage(at, stage | stage)
    yield line.with_stage(at, stage.renumbered(tuple(range(len(stage)))[::-1]))
    yield line.with_stage(at, stage.within(line.forms()[at]))
    if len(line.stages) > 1:
        yield line.joined(rng.randrange(len(line.stages) - 1))


def changed_line(rng, line):
    """A line with a stage that is a little otherwise, or None."""
    at = rng.randrange(len(line.stages))
    stage = line.stages[at]
    moves = list(stage.moves)
    ends = list(stage.ends)
    rows = rng.choice([rows for rows in (moves, ends) if rows] or [[]])
    if rows:
        row = rows.pop(rng.randrange(len(rows)))
        if rng.random() < 0.8:
            place = len(row) - 2 if len(row) == 4 else 1
            rows.append(row[:place] + (rng.choice(["", "a", "b", row[place] + "a"]),) + row[place + 1:])
    other = Translator(stage.states, stage.begins, tuple(sorted(set(moves))), tuple(sorted(set(ends))))
    return line.with_stage(at, other) if is_sure(other) else None
