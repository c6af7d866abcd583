"""Flat trees: cells joined in an order that needs few levels, however many they are."""

from streamwrights.maprows import MapRows
from streamwrights.maprows import even_tree
from streamwrights.maprows import maps_joined
from streamwrights.pieces import is_steady_map
from streamwrights.pieces import joined_map


def span_of(maps, thing, start):
    """The end and the map of the stretch from a start for which any value is a flat tree, or None."""
    if not isinstance(thing, tuple) or start == len(maps) or len(thing) == 1:
        return None
    if thing == ():
        return start + 1, maps[start]
    end, whole = start, None
    parts = []
    for part in thing:
        span = span_of(maps, part, end)
        if span is None:
            return None
        end = span[0]
        parts.append(span[1])
        whole = span[1] if whole is None else joined_map(whole, span[1])
    if len(parts) > 2 and not (is_steady_map(parts[0]) and all([one == parts[0] for one in parts])):
        return None
    return end, whole


def is_flat(cells, thing):
    """Whether any value is a flat tree for a tuple of cells."""
    span = span_of([cell.both_maps for cell in cells], thing, 0)
    return span is not None and span[0] == len(cells)


def height(tree):
    """The height of a flat tree."""
    return 1 + max([height(part) for part in tree]) if tree != () else 0


def flat_tree(cells):
    """A flat tree for a tuple of cells, of a height of at most three times the number of maps."""
    maps = [cell.both_maps for cell in cells]
    tree = even_tree(len(cells))
    # Pairs alone are flat enough, unless there are few maps: then rows of steady maps are lower.
    most = height(tree) // 3
    found = maps_joined(maps, most)
    if len(found) > most:
        return tree
    rows = MapRows(found)
    return rows.tree([rows.numbers[one] for one in maps])


def joined_stretches(maps):
    """The maps of all stretches, by their starts and ends."""
    found = {}
    for start in range(len(maps)):
        whole = maps[start]
        found[start, start + 1] = whole
        for end in range(start + 1, len(maps)):
            whole = joined_map(whole, maps[end])
            found[start, end + 1] = whole
    return found


def is_row(whole, low, stretch):
    """Whether a stretch consists of three or more low stretches with its own map, which is steady."""
    one = whole[stretch]
    if not is_steady_map(one):
        return False
    # How many such stretches lead to each place, three at most.
    counts = {stretch[0]: 0}
    for end in range(stretch[0] + 1, stretch[1] + 1):
        many = [counts[start] for start in counts if (start, end) in low and whole[start, end] == one]
        if many != []:
            counts[end] = min(3, max(many) + 1)
    return counts.get(stretch[1], 0) == 3


def is_pair(low, stretch):
    """Whether a stretch consists of two low stretches."""
    start, end = stretch
    return any([(start, middle) in low and (middle, end) in low for middle in range(start + 1, end)])


def least_height(cells):
    """The least height of a flat tree for a tuple of cells."""
    whole = joined_stretches([cell.both_maps for cell in cells])
    low = {(at, at + 1): True for at in range(len(cells))}
    many = 0
    while (0, len(cells)) not in low:
        low = {stretch: True for stretch in whole
               if stretch in low or is_pair(low, stretch) or is_row(whole, low, stretch)}
        many += 1
    return many
