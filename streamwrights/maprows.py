"""Flat trees for long rows of maps out of few: cut where the joined maps fall, and at places that are alike.

The maps are the numbers of a small semigroup. A row is cut into blocks that fall to the ideal of the whole row with
their last map; within that ideal, places between blocks get labels such that what stands between two places with one
label joins to one steady map. So each map adds at most 3 to the height of a tree.
"""

from streamwrights.pieces import joined_map


def maps_joined(maps, most):
    """All maps that rows of some maps join to; of more than so many just the first ones, one more than these."""
    found = []
    known = {}
    for one in maps:
        if one not in known:
            known[one] = True
            found.append(one)
    parts = list(found)
    at = 0
    while at < len(found) and len(found) <= most:
        for part in parts:
            whole = joined_map(found[at], part)
            if whole not in known:
                known[whole] = True
                found.append(whole)
        at += 1
    return found


def even_tree(many):
    """A tree of pairs for so many cells, of the least height."""
    if many == 1:
        return ()
    return even_tree(many // 2), even_tree(many - many // 2)


def row_tree(trees):
    """The tree of one or more trees side by side."""
    return trees[0] if len(trees) == 1 else tuple(trees)


class MapRows:
    """The maps that some maps join to, by numbers, and flat trees for rows of them."""

    def __init__(self, found):
        self.numbers = {one: number for number, one in enumerate(found)}
        many = list(range(len(found)))
        self.times = {(one, other): self.numbers[joined_map(found[one], found[other])]
                      for one in many for other in many}
        # What joins from a map with others behind it, ahead of it, and on both sides.
        self.right_ideals = [tuple(sorted(set([one] + [self.times[one, other] for other in many]))) for one in many]
        self.left_ideals = [tuple(sorted(set([one] + [self.times[other, one] for other in many]))) for one in many]
        self.both_ideals = [tuple(sorted({goal for part in self.right_ideals[one] for goal in self.left_ideals[part]}))
                            for one in many]

    def joined(self, row):
        """The map of a row."""
        whole = row[0]
        for one in row[1:]:
            whole = self.times[whole, one]
        return whole

    def tree(self, row):
        """A flat tree for a row."""
        if len(row) == 1:
            return ()
        blocks, tail = self.blocks(row)
        trees = [self.block_tree(block) for block in blocks]
        if len(blocks) == 1:
            return (trees[0], self.tree(tail)) if tail != [] else trees[0]
        labels = self.labels([self.joined(block) for block in blocks])
        cuts = [at for at, label in enumerate(labels) if label == labels[0]]
        last = self.labelled_tree(trees, labels, cuts[-1], len(blocks))
        if tail != []:
            last = (last, self.tree(tail))
        if len(cuts) == 1:
            return last
        row_trees = [self.labelled_tree(trees, labels, cuts[at], cuts[at + 1]) for at in range(len(cuts) - 1)]
        return row_tree(row_trees), last

    def blocks(self, row):
        """The blocks of a row, each as short as can be with a map in the ideal of the whole; and what is left."""
        ideal = self.both_ideals[self.joined(row)]
        found = []
        block = []
        whole = None
        for one in row:
            block.append(one)
            whole = one if whole is None else self.times[whole, one]
            if self.both_ideals[whole] == ideal:
                found.append(block)
                block = []
                whole = None
        return found, block

    def block_tree(self, block):
        """A tree for a block: all but the last map, and this one."""
        return (self.tree(block[:-1]), ()) if len(block) > 1 else ()

    def steady_one(self, left, right):
        """The steady map with a left and a right ideal, or None; None in the place of the left one is for any."""
        for one in range(len(self.right_ideals)):
            if self.times[one, one] == one and self.right_ideals[one] == right:
                if left is None or self.left_ideals[one] == left:
                    return one
        return None

    def labels(self, values):
        """A label for the place ahead of each block: (class of maps, map that tells how far in its group).

        Between two places with one label the blocks join to the steady map of the class.
        """
        start = self.right_ideals[values[0]]
        kinds = [(self.left_ideals[self.steady_one(None, start)], start)]
        for at in range(1, len(values)):
            kinds.append((self.left_ideals[values[at - 1]], self.right_ideals[values[at]]))
        # For each class the map from its first place on to the block that comes next.
        running = {}
        labels = []
        for kind, value in zip(kinds, values):
            if kind not in running:
                running[kind] = self.steady_one(kind[0], kind[1])
            labels.append((kind, running[kind]))
            running = {sign: self.times[whole, value] for sign, whole in running.items()}
        return labels

    def labelled_tree(self, trees, labels, start, end):
        """A tree for the blocks from one to below another one, cut at all inner places with one label."""
        if end - start == 1:
            return trees[start]
        cuts = [at for at in range(start + 1, end) if labels[at] == labels[start + 1]]
        first = self.labelled_tree(trees, labels, start, cuts[0])
        last = self.labelled_tree(trees, labels, cuts[-1], end)
        if len(cuts) == 1:
            return first, last
        row_trees = [self.labelled_tree(trees, labels, cuts[at], cuts[at + 1]) for at in range(len(cuts) - 1)]
        return first, (row_tree(row_trees), last)
