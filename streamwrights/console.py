"""The console: a house that is told by commands what to do."""

from streamwrights.back import first_source
from streamwrights.errors import BadFormat
from streamwrights.errors import BadText
from streamwrights.errors import InvalidCommand
from streamwrights.errors import NoAnswer
from streamwrights.errors import NotAlike
from streamwrights.errors import NotSure
from streamwrights.errors import OtherTexts
from streamwrights.errors import Stops
from streamwrights.house import House
from streamwrights.house import is_name
from streamwrights.lines import Line
from streamwrights.lines import whole
from streamwrights.once import is_once
from streamwrights.tables import table_of
from streamwrights.textlines import shown_word
from streamwrights.textlines import word_written


def line_told(text):
    """The line with a text that has a semicolon for each line feed; raises InvalidCommand() if there is none."""
    if "\n" in text:
        raise InvalidCommand()
    try:
        return Line.read(text.replace(";", "\n"))
    except (BadText, BadFormat, NotSure):
        raise InvalidCommand()


def bring(house, name, line):
    """Bring a line in, if it passes the gate."""
    try:
        house.bring(name, line)
    except (Stops, OtherTexts, NotAlike):
        return "no"
    return "ok"


def drop(house, name):
    """Take a name out."""
    house.drop(name)
    return "ok"


def lead(house, name, text):
    """What a text comes to."""
    try:
        return shown_word(house.lead(name, text))
    except NoAnswer:
        return "!"


def show_names(house):
    """All names."""
    return " ".join(house.names) if len(house) > 0 else "-"


def count_editions(house, name):
    """How many editions a name has."""
    return str(len(house.editions(name)))


def count_marks(house, name):
    """How many left and right marks the whole has."""
    table = table_of(whole(house.in_use(name)))
    return f"{table.lefts} {table.rights}"


def tell_once(house, name):
    """Whether the whole is read once."""
    return "yes" if is_once(whole(house.in_use(name))) else "no"


def lead_back(house, name, word):
    """The first text that comes to a word."""
    text = first_source(whole(house.in_use(name)), word)
    return "!" if text is None else shown_word(text)


def undo(house):
    """Take the last change back."""
    house.undo()
    return "ok"


def redo(house):
    """Make the last change again that was taken back."""
    house.redo()
    return "ok"


# What is done for each command, by the number of its words: alone, with a name, with a name and a word.
ALONE = {"names": show_names, "undo": undo, "redo": redo}
NAMED = {"drop": drop, "editions": count_editions, "marks": count_marks, "once": tell_once}
WORDED = {"lead": lead, "back": lead_back}


class Console:
    """A console with a house of its own."""

    def __init__(self):
        self.house = House()

    def run(self, command):
        """The answer to a command; raises InvalidCommand(), NoName(name), NothingToUndo() or NothingToRedo()."""
        words = command.split(" ") if isinstance(command, str) else []
        if len(words) > 1 and not is_name(words[1]):
            raise InvalidCommand()
        if len(words) == 1 and words[0] in ALONE:
            action = ALONE[words[0]]
            return action(self.house)
        if len(words) == 2 and words[0] in NAMED:
            action = NAMED[words[0]]
            return action(self.house, words[1])
        if len(words) == 3 and words[0] in WORDED and word_written(words[2]) is not None:
            action = WORDED[words[0]]
            return action(self.house, words[1], word_written(words[2]))
        if len(words) > 2 and words[0] == "bring":
            return bring(self.house, words[1], line_told(" ".join(words[2:])))
        raise InvalidCommand()
