"""Plain reckonings of ways back: by runs and by words, without the package's functions."""

from tests.reckoning import answers, has_text, is_word, useful_states


def has_source(translator, answer, form=None):
    """Whether a word is an answer of some text (of a format): by a search over states, the format's and lengths."""
    steps = None if form is None else {(state, letter): target for state, letter, target in form.moves}

    def fits(length, word):
        return answer[length:length + len(word)] == word

    seen = {(state, 0, len(word)) for state, word in translator.begins if fits(0, word)}
    waiting = list(seen)
    while waiting:
        state, place, length = waiting.pop()
        for source, word in translator.ends:
            if source == state and answer[length:] == word and (form is None or place in form.ends):
                return True
        for source, letter, word, target in translator.moves:
            goal = 0 if form is None else steps.get((place, letter))
            if source == state and fits(length, word) and goal is not None:
                further = (target, goal, length + len(word))
                if further not in seen:
                    seen.add(further)
                    waiting.append(further)
    return False


def sources_of(translator, answer):
    """All texts that have an answer; for translators without a silent loop."""
    useful = useful_states(translator)
    stands = [("", state, word) for state, word in translator.begins if answer.startswith(word)]
    found = set()
    while stands:
        text, state, word = stands.pop()
        found |= {text for last, tail in translator.ends if last == state and word + tail == answer}
        stands += [(text + letter, target, word + further) for source, letter, further, target in translator.moves
                   if source == state and target in useful and answer.startswith(word + further)]
    return found


def has_silent_loop(translator):
    """Whether moves between useful states that write nothing lead some state back to itself."""
    useful = useful_states(translator)
    pairs = {(state, target) for state, _, word, target in translator.moves
             if word == "" and state in useful and target in useful}
    for _ in range(translator.states):
        pairs |= {(one, last) for one, other in pairs for first, last in pairs if other == first}
    return any(one == other for one, other in pairs)


def is_silent_loop(translator, text, loop, rest):
    """Whether three texts are a silent loop, as far as a few rounds tell."""
    if not is_word(text) or not is_word(loop) or not is_word(rest) or loop == "":
        return False
    words = set(answers(translator, text + rest))
    for many in range(1, 4):
        words &= set(answers(translator, text + loop * many + rest))
    return words != set()


def twins_among(pairs):
    """Two unlike texts with a common answer among the answers of some texts, or None."""
    seen = {}
    for text, words in pairs.items():
        for word in words:
            if word in seen:
                return seen[word], text, word
            seen[word] = text
    return None


def are_twins(translator, thing):
    """Whether any value is a paper of twins."""
    if type(thing) is not tuple or len(thing) != 4 or thing[0] != "twins" or not all(is_word(part) for part in thing):
        return False
    _, text, other, word = thing
    return text != other and word in answers(translator, text) and word in answers(translator, other)


def leads_back(pairs, other):
    """Whether another translator answers all answers of some texts, and with none but the text that has them."""
    return all(answers(other, word) == (text,) for text, words in pairs.items() for word in words)


def first_lost(pairs, form):
    """The first of some texts that is one of a format and has an answer which is none; texts stand in order."""
    return next((text for text, words in pairs.items()
                 if has_text(form, text) and any(not has_text(form, word) for word in words)), None)
