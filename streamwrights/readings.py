"""What translators do with one text: which states are still of use, and what is written."""


def live_layers(translator, text):
    """For each place of a text the states from which what stands behind it is read on to an end, as keys of dicts."""
    layer = {state: True for state, _ in translator.ends}
    layers = [layer]
    for letter in reversed(text):
        layer = {state: True for state, sign, _, target in translator.moves if sign == letter and target in layer}
        layers.append(layer)
    return layers[::-1]


def answers_found(translator, text):
    """The ascending tuple of the answers of a text."""
    layers = live_layers(translator, text)
    stands = [(state, word) for state, word in translator.begins if state in layers[0]]
    for at, letter in enumerate(text):
        further = {}
        for state, written in stands:
            for index in translator.onward.get((state, letter), ()):
                _, _, word, target = translator.moves[index]
                if target in layers[at + 1]:
                    further[target, written + word] = True
        stands = list(further)
    tails = words_at(translator)
    return tuple(sorted({written + word for state, written in stands for word in tails.get(state, ())}))


def words_at(translator):
    """For each state with an end the tuple of the words of its ends."""
    found = {}
    for state, word in translator.ends:
        found[state] = found.get(state, ()) + (word,)
    return found


def places_of(word, answer):
    """The places at which a word stands in an answer, as the bits of an integer."""
    return sum([1 << at for at in range(len(answer) - len(word) + 1) if answer[at:at + len(word)] == word])


def has_answer(translator, text, answer):
    """Whether a text has an answer, however many runs it has."""
    # For each state the bits tell how many letters of the answer runs to it have written.
    fits = {word: places_of(word, answer) for word in words_used(translator)}
    stands = {}
    for state, word in translator.begins:
        stands[state] = stands.get(state, 0) | ((fits[word] & 1) << len(word))
    for letter in text:
        further = {}
        for state, bits in stands.items():
            for index in translator.onward.get((state, letter), ()):
                _, _, word, target = translator.moves[index]
                further[target] = further.get(target, 0) | ((bits & fits[word]) << len(word))
        stands = further
    written = [(stands.get(state, 0) & fits[word]) << len(word) for state, word in translator.ends]
    return any([(bits >> len(answer)) & 1 == 1 for bits in written])


def words_used(translator):
    """All words of the begins, moves and ends, ascending."""
    pairs = translator.begins + translator.ends
    return sorted(set([word for _, word in pairs] + [word for _, _, word, _ in translator.moves]))
