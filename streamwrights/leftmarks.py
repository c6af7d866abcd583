"""Left marks: what beginnings leave open for each right mark.

A node is a pair (state, right mark) such that the state completes rests of the mark. The stand of a beginning is the
ascending tuple of triples (state, mark, word) for all nodes of states to which it leads: the word is what is written by
then, and on all ways to ends by rests of the mark, behind what is certain for the beginning and the mark.
"""

from streamwrights.machines import finer_classes
from streamwrights.machines import first_states
from streamwrights.pushed import shared_words
from streamwrights.readings import words_at
from streamwrights.words import common_prefix


def steps_of_nodes(translator, marks):
    """For each node and letter the tuple of the steps (word, node) by moves with this letter."""
    known = marks.marks_of_states()
    found = {}
    for state, letter, word, target in translator.moves:
        if state in known:
            for mark in known.get(target, ()):
                sign = (state, marks.mark_ahead[letter, mark], letter)
                found[sign] = found.get(sign, ()) + ((word, (target, mark)),)
    return found


def shared_of_nodes(translator, steps):
    """For each node what all ways from it to an end by rests of its mark write first."""
    tails = {(state, 0): words for state, words in words_at(translator).items() if state in translator.useful}
    onward = {}
    for (state, mark, _), row in steps.items():
        onward[state, mark] = onward.get((state, mark), ()) + row
    return shared_words(tails, onward)


def cut_by_marks(written):
    """For each mark the common prefix of the words of its nodes, and the stand of what is left of the words."""
    words = {}
    for (_, mark), word in written.items():
        words[mark] = common_prefix(words.get(mark, word), word)
    stand = [(state, mark, word[len(words[mark]):]) for (state, mark), word in written.items()]
    return words, tuple(sorted(stand))


class LeftMarks:
    """What a sure translator does with beginnings, for its right marks: a machine of stands, and its least classes."""

    def __init__(self, translator, marks):
        self.translator = translator
        self.marks_known = marks.marks_of_states()
        self.steps = steps_of_nodes(translator, marks)
        self.shared = shared_of_nodes(translator, self.steps)
        self.letters = "".join(sorted({letter for _, _, letter in self.steps}))
        self.first_words, self.stand_rows, self.rows, self.words = self.machine()
        self.tails = [self.tail(stand) for stand in self.stand_rows]

    def begun(self):
        """For each node of the empty text what is written there, and on all ways on."""
        return {(state, mark): word + self.shared[state, mark] for state, word in self.translator.begins
                for mark in self.marks_known.get(state, ())}

    def led(self, stand, letter):
        """For each node to which a letter leads from a stand what is written behind what was certain."""
        written = {}
        for state, mark, left in stand:
            for word, node in self.steps.get((state, mark, letter), ()):
                written[node] = left + (word + self.shared[node])[len(self.shared[state, mark]):]
        return written

    def machine(self):
        """What is certain for the empty text, all stands, their steps (letter, number), and the words by marks.

        The words of the step of a stand by a letter are the pairs (mark, word) in the tuple of this step.
        """
        heads, start = cut_by_marks(self.begun())
        found = [start] if start != () else []
        numbers = {start: 0}
        rows = []
        words = []
        while len(rows) < len(found):
            row = []
            told = []
            for letter in self.letters:
                common, goal = cut_by_marks(self.led(found[len(rows)], letter))
                if goal != () and goal not in numbers:
                    numbers[goal] = len(found)
                    found.append(goal)
                if goal != ():
                    row.append((letter, numbers[goal]))
                    told.append(tuple(sorted(list(common.items()))))
            rows.append(row)
            words.append(told)
        return heads, found, rows, words

    def tail(self, stand):
        """What is written at the end behind what is certain for the mark of the empty text, or None."""
        endings = words_at(self.translator)
        words = [left + word[len(self.shared[state, 0]):] for state, mark, left in stand if mark == 0
                 for word in endings.get(state, ())]
        return words[0] if words != [] else None

    def classes(self):
        """The class of each stand, and the first stand of each class, in the order of the first beginnings."""
        signs = [[((letter, told), goal) for (letter, goal), told in zip(self.rows[at], self.words[at])]
                 for at in range(len(self.stand_rows))]
        kinds = finer_classes(signs, {at: self.tails[at] for at in range(len(self.stand_rows))})
        return kinds, first_states(signs, kinds, 0) if self.stand_rows != [] else []
