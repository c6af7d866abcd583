"""All errors of the package: one class for each kind of failure."""


class StreamError(Exception):
    """The base class of all errors of the package."""


class BadFormat(StreamError):
    """A value that is no format; part tells which part of it is wrong."""

    def __init__(self, part):
        self.part = part


class BadText(StreamError):
    """A value that is no text of the kind that is read; place is -1 or an index."""

    def __init__(self, place):
        self.place = place


class BadTranslator(StreamError):
    """A value that is no translator; part tells which part of it is wrong."""

    def __init__(self, part):
        self.part = part


class NotSure(StreamError):
    """A translator that is not sure; the paper shows a text with two answers."""

    def __init__(self, paper):
        self.paper = paper


class BadReader(StreamError):
    """A value that is no reader; part tells which part of it is wrong."""

    def __init__(self, part):
        self.part = part


class Drifts(StreamError):
    """A translator that has a drift where none may be."""

    def __init__(self, drift):
        self.drift = drift


class BadPiece(StreamError):
    """A piece with which what was taken does not stay a beginning."""

    def __init__(self, place):
        self.place = place


class NoAnswer(StreamError):
    """A text that has no answer where one is asked for."""

    def __init__(self, text):
        self.text = text


class NoRest(StreamError):
    """A text that is no rest where one is asked for."""

    def __init__(self, text):
        self.text = text


class BadMarking(StreamError):
    """A value that is no marking; part tells which part of it is wrong."""

    def __init__(self, part):
        self.part = part


class OtherTable(StreamError):
    """Two cells that belong to unlike tables."""


class BadPlace(StreamError):
    """A value that is no place, or no index."""

    def __init__(self, place):
        self.place = place


class BadWord(StreamError):
    """A value that is no text of letters."""

    def __init__(self, text):
        self.text = text


class Silent(StreamError):
    """A silent loop, for which nothing can be turned."""

    def __init__(self, text, loop, rest):
        self.text = text
        self.loop = loop
        self.rest = rest


class Twins(StreamError):
    """Two unlike texts that have a common answer."""

    def __init__(self, text, other, answer):
        self.text = text
        self.other = other
        self.answer = answer


class BadLine(StreamError):
    """A value that is no line; part tells which part of it is wrong."""

    def __init__(self, part):
        self.part = part


class OtherTexts(StreamError):
    """Two formats with unlike texts; the text belongs to just one of them."""

    def __init__(self, text):
        self.text = text


class OtherNumber(StreamError):
    """Two lines that do not have equally many stages."""


class Stops(StreamError):
    """A line that does not fit: the text stops at the stage with this index."""

    def __init__(self, index, text):
        self.index = index
        self.text = text


class BadName(StreamError):
    """A value that is no name."""

    def __init__(self, name):
        self.name = name


class NoName(StreamError):
    """A value that is no name that is kept."""

    def __init__(self, name):
        self.name = name


class NotAlike(StreamError):
    """Two lines that do not answer alike; the text shows it."""

    def __init__(self, text):
        self.text = text


class NothingToUndo(StreamError):
    """There is no change that could be taken back."""


class NothingToRedo(StreamError):
    """There is no change that could be made again."""


class InvalidCommand(StreamError):
    """A value that has not the form of a command."""
