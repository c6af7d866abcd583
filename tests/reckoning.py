"""Plain reckonings: slow and simple, from the words of the document alone, to hold the package's results against."""

import itertools
import random

from streamwrights.formats import Format
from streamwrights.sure import is_sure
from streamwrights.translators import Translator


def all_texts(letters, most):
    """All texts of some letters, of at most so many letters, in order."""
    return ["".join(row) for length in range(most + 1) for row in itertools.product(sorted(letters), repeat=length)]


def in_order(texts):
    return sorted(texts, key=lambda text: (len(text), text))


# Formats.

def led(form, text):
    state = 0
    for letter in text:
        targets = [target for source, sign, target in form.moves if source == state and sign == letter]
        if not targets:
            return None
        state = targets[0]
    return state


def has_text(form, text):
    state = led(form, text)
    return state is not None and state in form.ends


def texts_of(form, letters, most):
    return [text for text in all_texts(letters, most) if has_text(form, text)]


def least_of(is_text, letters, depth):
    """The least format of a set of texts: a state for each class of beginnings that the same rests complete.

    Beginnings and rests of up to so many letters must be enough to meet and to part all classes.
    """
    rests = all_texts(letters, depth)

    def rests_of(text):
        return tuple(rest for rest in rests if is_text(text + rest))

    classes, firsts = {}, []
    for text in all_texts(letters, depth):
        found = rests_of(text)
        if found and found not in classes:
            classes[found] = len(classes)
            firsts.append(text)
    if not firsts:
        return Format(1, (), ())
    moves = [(state, letter, classes[rests_of(first + letter)]) for state, first in enumerate(firsts)
             for letter in sorted(letters) if rests_of(first + letter)]
    ends = [state for state, first in enumerate(firsts) if is_text(first)]
    return Format(len(firsts), tuple(moves), tuple(ends))


def random_format(rng, most_states=4, letters="ab"):
    size = rng.randint(1, most_states)
    moves = [(state, letter, rng.randrange(size)) for state in range(size) for letter in letters
             if rng.random() < 0.7]
    ends = [state for state in range(size) if rng.random() < 0.4]
    return Format(size, tuple(moves), tuple(ends))


def random_formats(seed, many, **more):
    rng = random.Random(seed)
    return [random_format(rng, **more) for _ in range(many)]


# Translators.

def partial_runs(translator, text):
    """All partial runs of a text."""
    found = []
    for begin, (state, _) in enumerate(translator.begins):
        paths = [((), state)]
        for letter in text:
            paths = [(path + (index,), move[3]) for path, last in paths for index, move in enumerate(translator.moves)
                     if move[0] == last and move[1] == letter]
        found.extend(((begin, path), last) for path, last in paths)
    return found


def written(translator, run):
    return translator.begins[run[0]][1] + "".join(translator.moves[index][2] for index in run[1])


def answers(translator, text):
    return tuple(sorted({written(translator, run) + word for run, last in partial_runs(translator, text)
                         for state, word in translator.ends if state == last}))


def useful_states(translator):
    """The states that are met on some run: met from a begin, and leading to an end."""
    met = {state for state, _ in translator.begins}
    leading = {state for state, _ in translator.ends}
    for _ in range(translator.states):
        met |= {target for state, _, _, target in translator.moves if state in met}
        leading |= {state for state, _, _, target in translator.moves if target in leading}
    return tuple(sorted(met & leading))


def shared(one, other):
    length = 0
    while one[:length + 1] == other[:length + 1] and length < min(len(one), len(other)):
        length += 1
    return length


def delay_of(one, other):
    length = shared(one, other)
    return one[length:], other[length:]


def reached(translator, letters, most):
    """For each text of at most so many letters the pairs (last state, word) of its partial runs."""
    found = {"": set(translator.begins)}
    for text in all_texts(letters, most)[1:]:
        found[text] = {(target, word + further) for state, word in found[text[:-1]]
                       for source, letter, further, target in translator.moves
                       if source == state and letter == text[-1]}
    return found


def delays_up_to(translator, letters, most):
    """All delays that texts of at most so many letters show."""
    useful = useful_states(translator)
    found = set()
    for rows in reached(translator, letters, most).values():
        rows = [row for row in rows if row[0] in useful]
        found |= {(p, q) + delay_of(w, z) for p, w in rows for q, z in rows}
    return found


def held(translator, text):
    useful = useful_states(translator)
    words = [written(translator, run) for run, last in partial_runs(translator, text) if last in useful]
    if not words:
        return None
    common = min(shared(words[0], word) for word in words)
    return max(len(word) for word in words) - common


def random_word(rng, letters="xy", most=2):
    return "".join(rng.choice(letters) for _ in range(rng.randint(0, most)))


def random_translator(rng, letters="ab", out="xy", most_states=3, most_moves=6, most_word=2):
    states = rng.randint(1, most_states)
    begins = {(rng.randrange(states), random_word(rng, out, most_word)) for _ in range(rng.randint(1, 2))}
    moves = {(rng.randrange(states), rng.choice(letters), random_word(rng, out, most_word), rng.randrange(states))
             for _ in range(rng.randint(1, most_moves))}
    ends = {(rng.randrange(states), random_word(rng, out, most_word)) for _ in range(rng.randint(1, 2))}
    return Translator(states, tuple(sorted(begins)), tuple(sorted(moves)), tuple(sorted(ends)))


def random_translators(seed, many, **more):
    rng = random.Random(seed)
    return [random_translator(rng, **more) for _ in range(many)]


# Values of every kind.

def any_values():
    """Values of all kinds that a function that is asked of any value may get."""
    form = Format(1, ((0, "a", 0),), (0,))
    translator = Translator(1, ((0, ""),), ((0, "a", "x", 0),), ((0, ""),))
    deep = ()
    for _ in range(19):
        deep = (deep,)
    return [None, True, False, 0, 1, -1, 10 ** 39, "", "a", "A", "ab", "-", "a b", "a\nb", "a" * 2000, "~", (), [], {},
            (0,), [0], {"a": 1}, {0: ()}, (0, 0), (True, False), ("a",), ["a"], ((),), ([],), deep, form, translator,
            (form,), [translator], {"same": form}, ("same", ()), ("apart", 0), (0, ()), (0, (), 0), (0, "", 0, 0),
            tuple(range(1000)), list("abc"), ((0, "a", 0),), ((0, "", 0),)]


def mutations(value):
    """A value with one part of it, at any depth, replaced by another one, left out, repeated or exchanged."""
    for odd in (None, True, False, 0, 1, 2, -1, 999, 1000, "", "a", "A", "xy", "-", (), [], {}, (0,), ("a",)):
        yield odd
    if isinstance(value, str):
        for at in range(len(value) + 1):
            for sign in ("", "A", "0", "1", "9", " ", "\n", "-", "z"):
                yield value[:at] + sign + value[at:]
                yield value[:at] + sign + value[at + 1:]
    if isinstance(value, tuple):
        yield list(value)
        yield value[::-1]
        for at, part in enumerate(value):
            yield value[:at] + value[at + 1:]
            yield value[:at] + (part, part) + value[at + 1:]
            for odd in mutations(part):
                yield value[:at] + (odd,) + value[at + 1:]


def is_number(thing, size):
    return type(thing) is int and 0 <= thing < size


def is_letter(thing):
    return type(thing) is str and thing in list("abcdefghijklmnopqrstuvwxyz")


def is_word(thing):
    return type(thing) is str and all(is_letter(sign) for sign in thing)


def is_sorted(rows):
    return list(rows) == sorted(set(rows))


def fits(thing, *checks):
    return type(thing) is tuple and len(thing) == len(checks) and all(check(part) for check, part in zip(checks, thing))


def format_complaint(size, moves, ends):
    """The part for which a format is refused, in a tuple; an empty one if it is right."""
    if not (type(size) is int and 1 <= size <= 999):
        return ("size",)

    def is_state(thing):
        return is_number(thing, size)

    if type(moves) is not tuple:
        return ("moves",)
    for move in moves:
        if not fits(move, is_state, is_letter, is_state):
            return (move,)
    if not is_sorted(moves):
        return ("order",)
    for at, move in enumerate(moves):
        if any(other[:2] == move[:2] for other in moves[:at]):
            return (move,)
    if type(ends) is not tuple or not all(is_state(end) for end in ends) or not is_sorted(ends):
        return ("ends",)
    return ()


def translator_complaint(states, begins, moves, ends):
    """The part for which a translator is refused, or None."""
    if not is_number(states, 1000):
        return "states"

    def is_state(thing):
        return is_number(thing, states)

    def are_rows(thing, *checks):
        return type(thing) is tuple and all(fits(row, *checks) for row in thing) and is_sorted(thing)

    if not are_rows(begins, is_state, is_word):
        return "begins"
    if not are_rows(moves, is_state, is_letter, is_word, is_state):
        return "moves"
    return None if are_rows(ends, is_state, is_word) else "ends"


# Sure translators.

def random_reading(rng, letters="ab", out="xy", most_states=3, most_word=2):
    """A translator with one begin, and at most one move for each state and letter, and at most one end for each state."""
    states = rng.randint(1, most_states)
    moves = tuple((state, letter, random_word(rng, out, most_word), rng.randrange(states)) for state in range(states)
                  for letter in sorted(letters) if rng.random() < 0.8)
    ends = tuple((state, random_word(rng, out, most_word)) for state in range(states)
                 if rng.random() < 0.5 or state == states - 1)
    return Translator(states, ((0, random_word(rng, out, 1)),), moves, ends)


def closed(reading, letter):
    """A translator that answers a text with one letter behind it as a reading one answers the text."""
    moves = {(state, letter, word, reading.states) for state, word in reading.ends}
    return Translator(reading.states + 1, reading.begins, tuple(sorted(moves | set(reading.moves))),
                      ((reading.states, ""),))


def random_sure(rng, letters="ab", out="ab", most_states=3, most_word=2):
    """A sure translator: one that guesses, one that reads from behind, two of them in a row or side by side."""
    more = {"letters": letters, "out": out, "most_states": most_states, "most_word": most_word}
    few = {**more, "most_states": 2}
    kind = rng.randrange(8)
    if kind < 2:
        return random_reading(rng, **more).turned_round()
    if kind == 2:
        return random_reading(rng, **few).through(random_reading(rng, **{**few, "letters": out}).turned_round())
    if kind < 5:
        both = [closed(random_reading(rng, **few), letter) for letter in (letters[0], letters[-1])]
        return both[0] | both[1] if letters[0] != letters[-1] else both[0]
    while True:
        one = random_translator(rng, letters, out, most_states, 6, most_word)
        if kind == 5:
            one = random_reading(rng, **more) | random_reading(rng, **more).turned_round()
        if kind == 6:
            one = random_reading(rng, **more).turned_round().within(random_format(rng, letters=letters))
        if not has_two(one, letters, 4) and is_sure(one):
            return one


def has_two(translator, letters, most):
    """Whether some text of at most so many letters has two answers."""
    reach = reached(translator, letters, most)
    return any(len({word + tail for state, word in rows for last, tail in translator.ends if last == state}) > 1
               for rows in reach.values())


def random_sures(seed, many, **more):
    rng = random.Random(seed)
    return [random_sure(rng, **more) for _ in range(many)]


def answers_up_to(translator, letters, most):
    """The answers of all texts of at most so many letters that have one, by a sure translator."""
    found = {}
    for text, rows in reached(translator, letters, most).items():
        words = {word + tail for state, word in rows for last, tail in translator.ends if last == state}
        if len(words) > 1:
            raise ValueError(text)
        if words:
            found[text] = words.pop()
    return found


def prefix_of_all(words):
    first = words[0]
    return first[:min(shared(first, word) for word in words)]


def certain_words(known, letters, most):
    """The certain words of all beginnings of at most so many letters, by the answers of longer texts, too."""
    found = {}
    for text, answer in known.items():
        for length in range(min(most, len(text)) + 1):
            begin = text[:length]
            found[begin] = answer if begin not in found else prefix_of_all([found[begin], answer])
    return found


def reader_by_texts(known, letters, most, further):
    """The parts of the least reader, by what beginnings of at most so many letters leave open for so long rests.

    known are the answers of all texts of at most 1 more than both together.
    """
    sure = certain_words(known, letters, most + 1)
    rests = all_texts(letters, further)

    def left_open(text):
        return tuple(known[text + rest][len(sure[text]):] if text + rest in known else None for rest in rests)

    numbers, firsts = {}, []
    for text in all_texts(letters, most):
        if text in sure and left_open(text) not in numbers:
            numbers[left_open(text)] = len(firsts)
            firsts.append(text)
    if not firsts:
        return 0, "", (), ()
    moves = tuple((state, letter, sure[text + letter][len(sure[text]):], numbers[left_open(text + letter)])
                  for state, text in enumerate(firsts) for letter in sorted(letters) if text + letter in sure)
    tails = tuple((state, known[text][len(sure[text]):]) for state, text in enumerate(firsts) if text in known)
    return len(firsts), sure[""], moves, tails


def reader_complaint(states, head, moves, tails):
    """The part for which a reader is refused, or None."""
    if not is_number(states, 1000):
        return "states"
    if not is_word(head) or (states == 0 and head != ""):
        return "head"
    complaint = translator_complaint(states, (), moves, ())
    if complaint is not None or len({move[:2] for move in moves}) < len(moves):
        return "moves"
    complaint = translator_complaint(states, (), (), tails)
    return "tails" if complaint is not None or len({tail[0] for tail in tails}) < len(tails) else None
