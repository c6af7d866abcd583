"""Plain reckonings of marks: papers checked by the words of the document, marks told by the answers of many texts."""

from tests.reckoning import (all_texts, answers_up_to, delay_of, fits, is_number, is_sorted, is_word, partial_runs,
                             prefix_of_all, written)


def states_met(translator):
    met = {state for state, _ in translator.begins}
    for _ in range(translator.states):
        met |= {target for state, _, _, target in translator.moves if state in met}
    return met


def completers(translator, text):
    layer = {state for state, _ in translator.ends}
    for letter in reversed(text):
        layer = {state for state, sign, _, target in translator.moves if sign == letter and target in layer}
    return layer & states_met(translator)


def completes(translator, text, goals):
    states = {state for state, _ in translator.begins}
    for letter in text:
        states = {target for state, sign, _, target in translator.moves if sign == letter and state in states}
    return bool(states & goals)


def is_led_on(translator, pair, ones, others):
    seen, waiting = {pair}, [pair]
    while waiting:
        p, q = waiting.pop()
        if p in ones and q in others:
            return True
        fresh = {(move[3], other[3]) for move in translator.moves for other in translator.moves
                 if move[0] == p and other[0] == q and move[1] == other[1]} - seen
        seen |= fresh
        waiting += fresh
    return False


def is_alike_paper(translator, v, w, thing):
    """Whether any value is a paper that two rests are alike."""
    ones, others = completers(translator, v), completers(translator, w)

    def is_state(part):
        return is_number(part, translator.states)

    def are_states(part):
        return type(part) is tuple and part != () and all(is_state(state) for state in part) and is_sorted(part)

    def is_row(part):
        return fits(part, is_state, is_state, is_word, is_word)

    if not fits(thing, lambda part: type(part) is str and part == "alike", lambda part: type(part) is tuple,
                lambda part: type(part) is tuple):
        return False
    _, sets, rows = thing
    if not all(are_states(part) for part in sets) or not all(is_row(part) for part in rows):
        return False
    if not is_sorted(sets) or not is_sorted(rows):
        return False
    wanted = [{state for state, _ in translator.begins}]
    for states in sets:
        if bool(set(states) & ones) != bool(set(states) & others):
            return False
        wanted += [{move[3] for move in translator.moves if move[0] in states and move[1] == letter}
                   for letter in "abcdefghijklmnopqrstuvwxyz"]
    if any(goal and tuple(sorted(goal)) not in sets for goal in wanted):
        return False
    further = [(p, q) + delay_of(x, y) for p, x in translator.begins for q, y in translator.begins]
    further += [(move[3], other[3]) + delay_of(left + move[2], right + other[2]) for p, q, left, right in rows
                for move in translator.moves for other in translator.moves
                if move[0] == p and other[0] == q and move[1] == other[1]]
    return all(row in rows or not is_led_on(translator, row[:2], ones, others) for row in further)


def is_unlike_paper(translator, v, w, thing):
    """Whether any value is a paper that two rests are not alike; for short texts."""
    ones, others = completers(translator, v), completers(translator, w)
    if type(thing) is not tuple or not thing or type(thing[0]) is not str:
        return False
    if thing[0] == "text" and len(thing) == 2 and is_word(thing[1]):
        return completes(translator, thing[1], ones) != completes(translator, thing[1], others)
    if thing[0] != "drift" or not fits(thing[1:], is_word, is_word, is_word, is_any_run, is_any_run) or thing[2] == "":
        return False
    _, text, loop, further, run, other = thing
    known = dict(partial_runs(translator, text + loop + further))
    if run not in known or other not in known or known[run] not in ones or known[other] not in others:
        return False
    words = []
    for one in (run, other):
        cuts = [(one[0], one[1][:length]) for length in (len(text), len(text + loop))]
        lasts = [dict(partial_runs(translator, read))[cut] for read, cut in zip((text, text + loop), cuts)]
        if lasts[0] != lasts[1]:
            return False
        words.append([written(translator, cut) for cut in cuts])
    return delay_of(words[0][0], words[1][0]) != delay_of(words[0][1], words[1][1])


def is_any_run(part):
    return fits(part, lambda begin: type(begin) is int,
                lambda path: type(path) is tuple and all(type(index) is int for index in path))


def holds(translator, v, w, thing):
    if not completers(translator, v) or not completers(translator, w):
        return False
    return is_alike_paper(translator, v, w, thing) or is_unlike_paper(translator, v, w, thing)


class TextTable:
    """What the table of a sure translator tells, by the answers of all texts of a few letters.

    Which rests are alike is told by is_alike, a function of two rests.
    """

    def __init__(self, translator, letters, begin_most, rest_most, is_alike):
        known = answers_up_to(translator, letters, begin_most + 1 + rest_most)
        self.letters = letters
        self.marks, self.rests = {}, []
        seen = {(): None}
        self.mark_of = lambda rest: seen.get(tuple(sorted(completers(translator, rest))), -1)
        for rest in all_texts(letters, rest_most):
            states = tuple(sorted(completers(translator, rest)))
            if states and states not in seen:
                like = [mark for mark, first in enumerate(self.rests) if is_alike(first, rest)]
                seen[states] = like[0] if like else len(self.rests)
                self.rests += [] if like else [rest]
            if states:
                self.marks[rest] = seen[states]
        self.sure, self.opens = {}, {}
        self.lefts, self.beginnings = {}, []
        numbers = {}
        for begin in all_texts(letters, begin_most + 1):
            answers = {rest: known[begin + rest] for rest in self.marks if begin + rest in known}
            if not answers and not any(text.startswith(begin) for text in known):
                continue
            self.sure[begin] = {mark: prefix_of_all([answers[rest] for rest in answers if self.marks[rest] == mark])
                                for mark in {self.marks[rest] for rest in answers}}
            left = tuple((rest, answers[rest][len(self.sure[begin][self.marks[rest]]):]) for rest in sorted(answers))
            if left not in numbers and len(begin) <= begin_most:
                numbers[left] = len(self.beginnings)
                self.beginnings.append(begin)
            self.lefts[begin] = numbers.get(left)
        self.known = known

    def told(self):
        """Letters, first texts, and all that is told of marks, as dicts."""
        ons = {(left, letter): self.lefts[begin + letter] for left, begin in enumerate(self.beginnings)
               for letter in self.letters if begin + letter in self.sure}
        backs = {(letter, right): self.mark_of(letter + rest) for right, rest in enumerate(self.rests)
                 for letter in self.letters if self.mark_of(letter + rest) is not None}
        goes = {(left, mark) for left, begin in enumerate(self.beginnings) for mark in self.sure[begin]}
        words = {(left, letter, mark): word[len(self.sure[begin].get(backs[letter, mark], "")):]
                 for left, begin in enumerate(self.beginnings) for letter in self.letters
                 for mark, word in self.sure.get(begin + letter, {}).items()}
        firsts = dict(self.sure.get("", {}))
        lasts = {left: self.known[begin][len(self.sure[begin][0]):] for left, begin in enumerate(self.beginnings)
                 if begin in self.known}
        letters = "".join(sorted(set("".join(self.known))))
        return letters, tuple(self.beginnings), tuple(self.rests), ons, backs, goes, words, firsts, lasts


def told_by_table(table, letters):
    """The same of a table, by its methods."""
    lefts, rights = range(table.lefts), range(table.rights)
    ons = {(left, letter): table.on(left, letter) for left in lefts for letter in letters}
    backs = {(letter, right): table.back(letter, right) for letter in letters for right in rights}
    goes = {(left, right) for left in lefts for right in rights if table.goes(left, right)}
    words = {(left, letter, right): table.word(left, letter, right) for left in lefts for letter in letters
             for right in rights}
    firsts = {right: table.first(right) for right in rights}
    lasts = {left: table.last(left) for left in lefts}
    told = [{key: value for key, value in rows.items() if value is not None}
            for rows in (ons, backs, words, firsts, lasts)]
    return (table.letters, table.beginnings, table.rests, told[0], told[1], goes, told[2], told[3], told[4])
