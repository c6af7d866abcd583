"""Right marks: which sets of completers rests have, and which of these sets belong to alike rests."""

from streamwrights.completing import have_common
from streamwrights.completing import sources_by_letter
from streamwrights.driftingpairs import drifting_pairs
from streamwrights.machines import finer_classes


def sets_of_rests(translator):
    """The sets of completers of rests in the order of their first rests, these rests, and what letters ahead do.

    The last of the three tells for a letter and the number of a set the number of the set of rests with it ahead.
    """
    useful = {state: True for state in translator.useful}
    sources = sources_by_letter(translator)
    start = tuple(sorted({state for state, _ in translator.ends if state in useful}))
    found = [start] if start != () else []
    rests = [""] if start != () else []
    numbers = {start: 0}
    ahead = {}
    layer = list(range(len(found)))
    while layer:
        longer = []
        for letter in translator.letters:
            for number in layer:
                goal = tuple(sorted({source for state in found[number] for source in sources.get((state, letter), ())
                                     if source in useful}))
                if goal != () and goal not in numbers:
                    numbers[goal] = len(found)
                    longer.append(len(found))
                    found.append(goal)
                    rests.append(letter + rests[number])
                if goal != ():
                    ahead[letter, number] = numbers[goal]
        layer = longer
    return found, rests, ahead


def completed_classes(translator, found, ahead):
    """For the number of each set a class: sets of one class are completed by the same beginnings."""
    begins = {state: True for state, _ in translator.begins}
    rows = [[(letter, ahead[letter, number]) for letter in translator.letters if (letter, number) in ahead]
            for number in range(len(found))]
    return finer_classes(rows, {number: have_common(states, begins) for number, states in enumerate(found)})


def partners_of(pairs):
    """For each state the dict of the states that stand behind it in pairs."""
    partners = {}
    for one, other in pairs:
        partners.setdefault(one, {})[other] = True
    return partners


def numbered_marks(translator, found, ahead):
    """For the number of each set the number of its mark, and for each mark the number of its first set."""
    kinds = completed_classes(translator, found, ahead)
    partners = partners_of(list(drifting_pairs(translator)))
    firsts = []
    marks = []
    for number, states in enumerate(found):
        apart = {other: True for state in states for other in partners.get(state, ())}
        like = [mark for mark, first in enumerate(firsts)
                if kinds[first] == kinds[number] and not have_common(found[first], apart)]
        if like == []:
            like = [len(firsts)]
            firsts.append(number)
        marks.append(like[0])
    return marks, firsts


class RightMarks:
    """The right marks of a sure translator, numbered in the order of their first rests.

    It has the sets of completers that rests have, with the first rest and the mark of each one, and what letters ahead
    do with sets, and with marks.
    """

    def __init__(self, translator):
        found, first_rests, ahead = sets_of_rests(translator)
        marks, firsts = numbered_marks(translator, found, ahead)
        self.letters = translator.letters
        self.sets = found
        self.set_rests = first_rests
        self.set_marks = marks
        self.ahead = ahead
        self.mark_rests = tuple([first_rests[number] for number in firsts])
        self.mark_ahead = {(letter, marks[number]): marks[goal] for (letter, number), goal in ahead.items()}

    def letters_ahead(self, number):
        """The pairs (letter, number of a set) for all letters that stand ahead of rests of a set."""
        return [(letter, self.ahead[letter, number]) for letter in self.letters if (letter, number) in self.ahead]

    def marks_of_states(self):
        """For each state the ascending tuple of the marks of the rests that it completes."""
        pairs = sorted({(state, self.set_marks[number]) for number, states in enumerate(self.sets)
                        for state in states})
        found = {}
        for state, mark in pairs:
            found[state] = found.get(state, ()) + (mark,)
        return found
