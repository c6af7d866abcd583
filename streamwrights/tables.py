"""Tables of marks: one for each sure translator, the same for all with the same answers."""

from streamwrights.leftmarks import LeftMarks
from streamwrights.rightmarks import RightMarks
from streamwrights.same import refuse_unsure


class Table:
    """The table of a sure translator, made by table_of alone."""

    def __init__(self, right, left):
        kinds, firsts = left.classes()
        numbers = {kinds[at]: number for number, at in enumerate(firsts)}
        self.letters = left.letters
        self.rests = right.mark_rests
        self.rights = len(right.mark_rests)
        self.lefts = len(firsts)
        self.ons = {(number, letter): numbers[kinds[goal]] for number, at in enumerate(firsts)
                    for letter, goal in left.rows[at]}
        self.backs = right.mark_ahead
        self.pairs = {(number, mark): True for number, at in enumerate(firsts) for _, mark, _ in left.stand_rows[at]}
        self.words = {(number, letter, mark): word for number, at in enumerate(firsts)
                      for (letter, _), told in zip(left.rows[at], left.words[at]) for mark, word in told}
        self.first_words = left.first_words
        self.last_words = {number: left.tails[at] for number, at in enumerate(firsts) if left.tails[at] is not None}
        self.beginnings = first_beginnings(self.lefts, self.letters, self.ons)

    def __len__(self):
        return len(self.words)

    def __eq__(self, other):
        return (isinstance(other, Table) and self.letters == other.letters and self.rests == other.rests
                and self.beginnings == other.beginnings and self.ons == other.ons and self.backs == other.backs
                and self.pairs == other.pairs and self.words == other.words and self.first_words == other.first_words
                and self.last_words == other.last_words)

    def on(self, left, letter):
        """The left mark of beginnings with a letter behind them, or None."""
        return self.ons.get((left, letter))

    def back(self, letter, right):
        """The right mark of rests with a letter ahead of them, or None."""
        return self.backs.get((letter, right))

    def goes(self, left, right):
        """Whether beginnings with a left mark are completed by rests with a right mark."""
        return (left, right) in self.pairs

    def word(self, left, letter, right):
        """The word of a letter between marks, or None."""
        return self.words.get((left, letter, right))

    def first(self, right):
        """What answers of texts with a right mark begin with, or None."""
        return self.first_words.get(right)

    def last(self, left):
        """What answers of texts with a left mark end with, or None."""
        return self.last_words.get(left)

    def left_mark(self, text):
        """The left mark of a text, or None if it is no beginning."""
        mark = 0 if self.lefts > 0 else None
        for letter in text:
            mark = self.on(mark, letter)
        return mark

    def right_mark(self, text):
        """The right mark of a text, or None if it is no rest."""
        mark = 0 if self.rights > 0 else None
        for letter in reversed(text):
            mark = self.back(letter, mark)
        return mark

    def told(self, text):
        """The answer of a text, or None."""
        rights = [0]
        for letter in reversed(text):
            rights.append(self.back(letter, rights[-1]))
        left = 0
        words = [self.first(rights[-1])]
        behind = rights[:-1][::-1]
        for letter, right in zip(text, behind):
            words.append(self.word(left, letter, right))
            left = self.on(left, letter)
        words.append(self.last(left))
        return "".join(words) if None not in words else None


def first_beginnings(many, letters, ons):
    """The first texts of all left marks; these are numbered in the order of their first texts."""
    texts = [""] if many > 0 else []
    for left in range(many):
        for letter in letters:
            if ons.get((left, letter)) == len(texts):
                texts.append(texts[left] + letter)
    return tuple(texts)


def table_of(translator):
    """The table of a translator; raises NotSure(paper)."""
    refuse_unsure(translator)
    right = RightMarks(translator)
    return Table(right, LeftMarks(translator, right))
