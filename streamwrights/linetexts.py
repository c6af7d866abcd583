"""The texts of lines, written and read: a format, and one to four stages."""

from streamwrights.errors import BadText
from streamwrights.formatlines import format_of_lines
from streamwrights.translatorlines import translator_of_lines

# The line that stands ahead of the text of each stage.
AHEAD = "stage"

MOST_STAGES = 4


def text_of_line(form, stages):
    """The text of a line with a format and stages."""
    rows = [str(form)]
    for stage in stages:
        rows.extend([AHEAD, str(stage)])
    return "\n".join(rows)


def read_line(text):
    """The parts of the format and the list of the parts of the stages of a text of a line.

    Raises BadText(place) for any value that is none.
    """
    if not isinstance(text, str):
        raise BadText(-1)
    lines = text.split("\n")
    cuts = [at for at, row in enumerate(lines) if row == AHEAD] + [len(lines)]
    form = format_of_lines(lines[:cuts[0]], 0)
    if len(cuts) == 1:
        raise BadText(len(lines))
    many = min(len(cuts) - 1, MOST_STAGES)
    stages = [translator_of_lines(lines[cuts[at] + 1:cuts[at + 1]], cuts[at] + 1) for at in range(many)]
    if len(cuts) - 1 > MOST_STAGES:
        raise BadText(cuts[MOST_STAGES])
    return form, stages
