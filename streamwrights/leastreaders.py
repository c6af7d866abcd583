"""The least reader of a sure translator without a drift, as plain parts (states, head, moves, tails)."""

from streamwrights.chains import moves_for
from streamwrights.chains import words_for
from streamwrights.machines import finer_classes
from streamwrights.machines import first_states
from streamwrights.pushed import pushed_parts
from streamwrights.words import common_prefix


def words_led(onward, stand, letter):
    """For each state to which a letter leads from the states of a stand the word that is written then."""
    further = {}
    for state, written in stand:
        for word, target in onward.get((state, letter), ()):
            further[target] = written + word
    return further


def shortened(written):
    """What the words of some states have in common, and the stand: ascending pairs (state, what is behind that)."""
    words = list(written.values())
    common = common_prefix(*words)
    return common, tuple(sorted([(state, written[state][len(common):]) for state in written]))


def stands_read(begins, moves):
    """The word written at first, all stands that texts lead to, and for each one its steps.

    A step is a pair ((letter, word), number of a stand). There are finitely many stands if there is no drift.
    """
    onward = moves_for(moves)
    letters = sorted({letter for _, letter, _, _ in moves})
    head, start = shortened(dict(begins))
    found = [start]
    numbers = {start: 0}
    rows = []
    at = 0
    while at < len(found):
        row = []
        for letter in letters:
            further = words_led(onward, found[at], letter)
            if further != {}:
                word, goal = shortened(further)
                if goal not in numbers:
                    numbers[goal] = len(found)
                    found.append(goal)
                row.append(((letter, word), numbers[goal]))
        rows.append(row)
        at += 1
    return head, found, rows


def tail_of(stand, endings):
    """What is written at the end of a text with a stand, or None."""
    words = [written + word for state, written in stand for word in endings.get(state, ())]
    return words[0] if words != [] else None


def least_reader(states, begins, moves, ends):
    """The least reader of the parts of a sure translator without a drift."""
    many, starts, steps, last = pushed_parts(states, begins, moves, ends)
    if many == 0:
        return 0, "", (), ()
    head, found, rows = stands_read(starts, steps)
    endings = words_for(last)
    tails = [tail_of(stand, endings) for stand in found]
    kinds = finer_classes(rows, {at: tails[at] for at in range(len(found))})
    chosen = first_states(rows, kinds, 0)
    numbers = {kinds[at]: number for number, at in enumerate(chosen)}
    onward = [(numbers[kinds[at]], letter, word, numbers[kinds[goal]]) for at in chosen
              for (letter, word), goal in rows[at]]
    ending = [(number, tails[at]) for number, at in enumerate(chosen) if tails[at] is not None]
    return len(chosen), head, tuple(onward), tuple(ending)
