"""How many letters a translator holds at a text: reckoned state by state, without following each run."""

from streamwrights.words import common_prefix


def longest_begun(translator, useful):
    """For each useful state of a begin one of the longest words that stand with it."""
    longest = {}
    for state, word in translator.begins:
        if state in useful and len(word) >= len(longest.get(state, "")):
            longest[state] = word
    return longest


def longest_behind(translator, useful, longest, letter):
    """For each useful state to which a letter leads one of the longest words that are written then."""
    further = {}
    for state in longest:
        for index in translator.onward.get((state, letter), ()):
            _, _, word, target = translator.moves[index]
            written = longest[state] + word
            if target in useful and len(written) >= len(further.get(target, "")):
                further[target] = written
    return further


def longest_words(translator, useful, text):
    """For each useful state that a text meets one of the longest words that runs to it write."""
    longest = longest_begun(translator, useful)
    for letter in text:
        longest = longest_behind(translator, useful, longest, letter)
    return longest


def led_on(stand, word, target, whole):
    """The stand (state, length, is_open) behind one that writes a word and goes to a state.

    The length tells with how many letters of the whole word begins what a run has written; it is open as long as
    nothing else was written behind them.
    """
    _, length, is_open = stand
    if not is_open:
        return target, length, False
    shared = len(common_prefix(whole[length:length + len(word)], word))
    return target, length + shared, shared == len(word)


def shared_length(translator, useful, text, whole):
    """The least number of letters that the whole word shares with what any run to a useful state writes."""
    stands = [led_on((state, 0, True), word, state, whole) for state, word in translator.begins if state in useful]
    for letter in text:
        further = {}
        for stand in stands:
            for index in translator.onward.get((stand[0], letter), ()):
                _, _, word, target = translator.moves[index]
                if target in useful:
                    further[led_on(stand, word, target, whole)] = True
        stands = list(further)
    return min([length for _, length, _ in stands])


def letters_held(translator, text):
    """How many letters a translator holds at a text, or None if it is no beginning."""
    useful = {state: True for state in translator.useful}
    longest = longest_words(translator, useful, text)
    if len(longest) == 0:
        return None
    # What all words share is what the longest one shares with each of them.
    whole = max(list(longest.values()), key=len)
    return len(whole) - shared_length(translator, useful, text, whole)
