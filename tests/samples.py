"""The translators of the document's examples, and others that tests ask about."""

from streamwrights.formats import Format
from streamwrights.translators import Translator

ASIDE = Translator(2, ((0, ""),), ((0, "a", "x", 0), (0, "a", "y", 1), (1, "b", "", 0)), ((0, ""),))
LATE = Translator(3, ((0, ""), (1, "")), ((0, "a", "x", 0), (0, "b", "", 2), (1, "a", "y", 1), (1, "c", "", 2)),
                  ((2, ""),))
AB = Format.by_expression("(a b)*")
EMPTY = Translator(0, (), (), ())

# Several begins and ends, moves of one letter side by side, and a state of no use.
MANY = Translator(3, ((0, ""), (0, "x"), (1, "y")), ((0, "a", "", 0), (0, "a", "x", 1), (0, "b", "yy", 1),
                                                     (1, "a", "x", 0), (2, "a", "", 2)), ((0, "x"), (1, ""), (1, "y")))

# Two answers for each text of one letter or more, and very many runs.
FORKED = Translator(2, ((0, ""),), ((0, "a", "x", 0), (0, "a", "x", 1), (0, "b", "", 0), (0, "b", "y", 0),
                                    (1, "a", "x", 0), (1, "a", "x", 1)), ((0, ""), (1, "")))

# The b or c at the end tells what is written for each a ahead of it.
LAST = Translator(3, ((0, ""), (1, "")), ((0, "a", "b", 0), (0, "b", "", 2), (1, "a", "a", 1), (1, "c", "", 2)),
                  ((2, ""),))
