"""Groups of pairs: pairs of states that steps lead from each one to each other one, and ways between pairs."""

from streamwrights.pairs import pair_sources


def finished_order(steps):
    """The pairs, each one behind those that are met from it ahead of it."""
    order = []
    seen = {}
    for root in steps:
        trail = [(root, 0)] if root not in seen else []
        seen[root] = True
        while trail:
            pair, place = trail.pop()
            if place == len(steps[pair]):
                order.append(pair)
            else:
                trail.append((pair, place + 1))
                target = steps[pair][place][2]
                if target not in seen:
                    seen[target] = True
                    trail.append((target, 0))
    return order


def groups_of(steps):
    """For each pair one pair of its group, the same one for all of the group."""
    sources = pair_sources(steps)
    groups = {}
    for root in finished_order(steps)[::-1]:
        waiting = [root] if root not in groups else []
        while waiting:
            pair = waiting.pop()
            if pair not in groups:
                groups[pair] = root
                waiting.extend(sources[pair])
    return groups


def inner_steps(steps):
    """For each pair its steps to pairs of its own group."""
    groups = groups_of(steps)
    return {pair: [step for step in steps[pair] if groups[step[2]] == groups[pair]] for pair in steps}


def way(steps, starts, goals):
    """A shortest way from some starts to some goals: a start and the list of the steps; None if there is none."""
    came = {start: () for start in starts}
    found = list(starts)
    at = 0
    while at < len(found):
        pair = found[at]
        if pair in goals:
            return way_back_from(came, pair)
        for step in steps[pair]:
            if step[2] not in came:
                came[step[2]] = (pair, step)
                found.append(step[2])
        at += 1
    return None


def way_back_from(came, pair):
    """The start and the steps that lead to a pair, if came tells of each pair how it was met."""
    path = []
    while came[pair] != ():
        pair, step = came[pair]
        path.append(step)
    return pair, path[::-1]
