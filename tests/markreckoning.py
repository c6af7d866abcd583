"""Plain reckonings of marks: papers checked by the words of the document, marks told by the answers of many texts."""

from tests.reckoning import delay_of, fits, is_number, is_sorted, is_word, partial_runs, written


def states_met(translator):
    met = {state for state, _ in translator.begins}
    for _ in range(translator.states):
        met |= {target for state, _, _, target in translator.moves if state in met}
    return met


def completers(translator, text):
    layer = {state for state, _ in translator.ends}
    for letter in reversed(text):
        layer = {state for state, sign, _, target in translator.moves if sign == letter and target in layer}
    return layer & states_met(translator)


def completes(translator, text, goals):
    states = {state for state, _ in translator.begins}
    for letter in text:
        states = {target for state, sign, _, target in translator.moves if sign == letter and state in states}
    return bool(states & goals)


def is_led_on(translator, pair, ones, others):
    seen, waiting = {pair}, [pair]
    while waiting:
        p, q = waiting.pop()
        if p in ones and q in others:
            return True
        fresh = {(move[3], other[3]) for move in translator.moves for other in translator.moves
                 if move[0] == p and other[0] == q and move[1] == other[1]} - seen
        seen |= fresh
        waiting += fresh
    return False


def is_alike_paper(translator, v, w, thing):
    """Whether any value is a paper that two rests are alike."""
    ones, others = completers(translator, v), completers(translator, w)

    def is_state(part):
        return is_number(part, translator.states)

    def are_states(part):
        return type(part) is tuple and part != () and all(is_state(state) for state in part) and is_sorted(part)

    def is_row(part):
        return fits(part, is_state, is_state, is_word, is_word)

    if not fits(thing, lambda part: type(part) is str and part == "alike", lambda part: type(part) is tuple,
                lambda part: type(part) is tuple):
        return False
    _, sets, rows = thing
    if not all(are_states(part) for part in sets) or not all(is_row(part) for part in rows):
        return False
    if not is_sorted(sets) or not is_sorted(rows):
        return False
    wanted = [{state for state, _ in translator.begins}]
    for states in sets:
        if bool(set(states) & ones) != bool(set(states) & others):
            return False
        wanted += [{move[3] for move in translator.moves if move[0] in states and move[1] == letter}
                   for letter in "abcdefghijklmnopqrstuvwxyz"]
    if any(goal and tuple(sorted(goal)) not in sets for goal in wanted):
        return False
    further = [(p, q) + delay_of(x, y) for p, x in translator.begins for q, y in translator.begins]
    further += [(move[3], other[3]) + delay_of(left + move[2], right + other[2]) for p, q, left, right in rows
                for move in translator.moves for other in translator.moves
                if move[0] == p and other[0] == q and move[1] == other[1]]
    return all(row in rows or not is_led_on(translator, row[:2], ones, others) for row in further)


def is_unlike_paper(translator, v, w, thing):
    """Whether any value is a paper that two rests are not alike; for short texts."""
    ones, others = completers(translator, v), completers(translator, w)
    if type(thing) is not tuple or not thing or type(thing[0]) is not str:
        return False
    if thing[0] == "text" and len(thing) == 2 and is_word(thing[1]):
        return completes(translator, thing[1], ones) != completes(translator, thing[1], others)
    if thing[0] != "drift" or not fits(thing[1:], is_word, is_word, is_word, is_any_run, is_any_run) or thing[2] == "":
        return False
    _, text, loop, further, run, other = thing
    known = dict(partial_runs(translator, text + loop + further))
    if run not in known or other not in known or known[run] not in ones or known[other] not in others:
        return False
    words = []
    for one in (run, other):
        cuts = [(one[0], one[1][:length]) for length in (len(text), len(text + loop))]
        lasts = [dict(partial_runs(translator, read))[cut] for read, cut in zip((text, text + loop), cuts)]
        if lasts[0] != lasts[1]:
            return False
        words.append([written(translator, cut) for cut in cuts])
    return delay_of(words[0][0], words[1][0]) != delay_of(words[0][1], words[1][1])


def is_any_run(part):
    return fits(part, lambda begin: type(begin) is int,
                lambda path: type(path) is tuple and all(type(index) is int for index in path))


def holds(translator, v, w, thing):
    if not completers(translator, v) or not completers(translator, w):
        return False
    return is_alike_paper(translator, v, w, thing) or is_unlike_paper(translator, v, w, thing)
