"""The house: lines under names, with all their editions, and a log of what texts came to."""

from streamwrights.back import sources
from streamwrights.desks import Desk
from streamwrights.errors import BadLine
from streamwrights.errors import BadName
from streamwrights.errors import BadPlace
from streamwrights.errors import BadWord
from streamwrights.errors import NoAnswer
from streamwrights.errors import NoName
from streamwrights.errors import NothingToRedo
from streamwrights.errors import NothingToUndo
from streamwrights.gates import refuse_unlike
from streamwrights.kept import Kept
from streamwrights.lines import Line
from streamwrights.lines import refuse_stopping
from streamwrights.lines import whole
from streamwrights.tables import table_of
from streamwrights.values import is_index
from streamwrights.words import is_word


def is_name(thing):
    """Whether any value is a word of one to eight letters."""
    return is_word(thing) and 1 <= len(thing) <= 8


class House:
    """A house without any lines at first."""

    def __init__(self):
        # What stands here is never changed itself, only replaced: so all that was can be put back.
        self.shelves = {}
        self.past = ()
        self.future = ()
        self.entries = ()

    def __len__(self):
        return len(self.shelves)

    def __contains__(self, x):
        return isinstance(x, str) and x in self.shelves

    @property
    def names(self):
        """The ascending tuple of the names."""
        return tuple(sorted(list(self.shelves)))

    @property
    def log(self):
        """The tuple of all entries (name, text, answer)."""
        return self.entries

    def editions(self, name):
        """The tuple of all lines under a name, the one in use last; raises NoName(name)."""
        if name not in self:
            raise NoName(name)
        return self.shelves[name]

    def in_use(self, name):
        """The line in use under a name; raises NoName(name)."""
        return self.editions(name)[-1]

    def put(self, shelves):
        """Change what stands under the names."""
        self.past = self.past + (self.shelves,)
        self.future = ()
        self.shelves = shelves

    def bring(self, name, line):
        """Bring in a line; raises BadName, BadLine, Stops, and for a known name OtherTexts or NotAlike."""
        if not is_name(name):
            raise BadName(name)
        if not isinstance(line, Line):
            raise BadLine("line")
        refuse_stopping(line)
        if name in self:
            refuse_unlike(self.in_use(name), line)
        self.put({**self.shelves, name: self.shelves.get(name, ()) + (line,)})

    def drop(self, name):
        """Take a name out, with its editions; raises NoName(name)."""
        if name not in self:
            raise NoName(name)
        self.put({kept: lines for kept, lines in self.shelves.items() if kept != name})

    def undo(self):
        """Take the last change back that is not taken back; raises NothingToUndo()."""
        if self.past == ():
            raise NothingToUndo()
        self.future = self.future + (self.shelves,)
        self.shelves = self.past[-1]
        self.past = self.past[:-1]

    def redo(self):
        """Make the change again that was taken back last; raises NothingToRedo()."""
        if self.future == ():
            raise NothingToRedo()
        self.past = self.past + (self.shelves,)
        self.shelves = self.future[-1]
        self.future = self.future[:-1]

    def tried(self, action):
        """Call a function with the house and return what it returns; then all is as it was at the beginning."""
        shelves, past, future, entries = self.shelves, self.past, self.future, self.entries
        try:
            return action(self)
        finally:
            self.shelves, self.past, self.future, self.entries = shelves, past, future, entries

    def lead(self, name, text):
        """Lead a text through the line in use and note it; raises NoName, BadWord(text), then NoAnswer(text)."""
        line = self.in_use(name)
        if not is_word(text):
            raise BadWord(text)
        word = line.comes_to(text)
        if word is None:
            raise NoAnswer(text)
        self.entries = self.entries + ((name, text, word),)
        return word

    def stands(self, index):
        """Whether the entry with an index holds by the line in use; raises BadPlace(index)."""
        if not is_index(index, len(self.entries)):
            raise BadPlace(index)
        name, text, word = self.entries[index]
        return name in self and self.in_use(name).comes_to(text) == word

    def come_from(self, name, answer):
        """The least format of all texts that come to a word by the line in use; raises NoName(name)."""
        return sources(whole(self.in_use(name)), answer)

    def desk(self, name):
        """A desk by the line in use; raises NoName(name)."""
        return Desk(self, name)

    def kept(self, name, text):
        """A kept text with the table of the whole of the line in use; raises NoName(name)."""
        return Kept(table_of(whole(self.in_use(name))), text)
