"""Whether each text has one answer at most: tables of delays, and texts with two answers."""

from streamwrights.errors import NotSure
from streamwrights.pairs import begin_stands
from streamwrights.pairs import fresh_stands
from streamwrights.pairs import runs_of
from streamwrights.pairs import stands_behind
from streamwrights.pairs import useful_pair_steps
from streamwrights.readings import has_answer
from streamwrights.readings import live_layers
from streamwrights.readings import words_at
from streamwrights.values import is_integer
from streamwrights.values import is_tuple_of
from streamwrights.words import is_word


def is_sure(translator):
    """Whether no text has two answers."""
    return judge_sure(translator)[0] == "sure"


def judge_sure(translator):
    """A paper that a translator is sure, or that it is not, then with a shortest text that has two answers."""
    # Of a pair with two delays, whatever leads on to ends writes unlike answers behind one of them; so a third delay,
    # met by no shorter text, adds no shorter text with two answers.
    steps = useful_pair_steps(translator)
    known = {}
    stands = fresh_stands(known, begin_stands(translator, steps), 2)
    tails = words_at(translator)
    at = 0
    while at < len(stands):
        words = unlike_ends(tails, stands[at])
        if words != ():
            return two_paper(translator, stands, at, words)
        further = stands_behind(translator, steps, stands, at)
        stands.extend(fresh_stands(known, further, 2))
        at += 1
    return "sure", tuple(sorted([(pair[0], pair[1], left, right) for pair, left, right, _, _, _ in stands]))


def unlike_ends(tails, stand):
    """The words of two ends by which both runs of a stand write unlike answers, or an empty tuple."""
    pair, left, right, _, _, _ = stand
    for word in tails.get(pair[0], ()):
        for other in tails.get(pair[1], ()):
            if left + word != right + other:
                return word, other
    return ()


def two_paper(translator, stands, at, words):
    """The paper of the text of a stand whose two runs end with unlike words."""
    run, other = runs_of(stands, at)
    return "two", translator.reads(run), translator.writes(run) + words[0], translator.writes(other) + words[1]


def begins_with_integers(thing):
    """Whether any value is a tuple of four items of which the first two are integers."""
    return is_tuple_of(thing, 4) and is_integer(thing[0]) and is_integer(thing[1])


def sure_holds(translator, thing):
    """Whether any value is a paper for a translator."""
    if is_tuple_of(thing, 2) and thing[0] == "sure":
        # There is just one table of delays of a translator, if there is one; but True and 1 are equal.
        if not isinstance(thing[1], tuple) or not all([begins_with_integers(row) for row in thing[1]]):
            return False
        return judge_sure(translator) == ("sure", thing[1])
    if not is_tuple_of(thing, 4) or not thing[0] == "two" or not all([is_word(part) for part in thing[1:]]):
        return False
    answers = thing[2:]
    return answers[0] != answers[1] and all([has_answer(translator, thing[1], word) for word in answers])


def words_kept(words, further):
    """Some words with one more, but just two unlike ones at most."""
    return words if further in words or len(words) == 2 else words + (further,)


def answer(translator, text):
    """The answer of a text, or None; raises NotSure(paper) if the text has two answers."""
    # Two unlike words written on the way to a state that is led on become two unlike answers: more are not needed.
    layers = live_layers(translator, text)
    stands = {}
    for state, word in translator.begins:
        if state in layers[0]:
            stands[state] = words_kept(stands.get(state, ()), word)
    for at, letter in enumerate(text):
        stands = words_behind(translator, stands, letter, layers[at + 1])
    answers = ()
    for state, tail in translator.ends:
        for word in stands.get(state, ()):
            answers = words_kept(answers, word + tail)
    if len(answers) == 2:
        raise NotSure(("two", text, answers[0], answers[1]))
    return answers[0] if answers != () else None


def words_behind(translator, stands, letter, layer):
    """For each state of a layer to which a letter leads at most two unlike words that are written then."""
    further = {}
    for state in stands:
        for index in translator.onward.get((state, letter), ()):
            _, _, word, target = translator.moves[index]
            if target in layer:
                for written in stands[state]:
                    further[target] = words_kept(further.get(target, ()), written + word)
    return further
