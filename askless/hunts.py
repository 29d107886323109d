"""Hunts: the least log of a walk that shows something, among all walks in the runs of a right program."""
from askless.grounds import closed, reaches
from askless.sights import told_by


def ways_within(ways, allowed):
    """The ways from stands of a set to such stands, none from others."""
    inside = [(allowed >> at) & 1 for at in range(len(ways))]
    return [[to for to in there if inside[at] and inside[to]] for at, there in enumerate(ways)]


def reads_on(ground, parts, options, result):
    """The dict from the next reads to lists of tuples (sign, names, state, stands), which tell what is behind them."""
    found = {}
    for (names, state), stands in parts.items():
        for head, place in options(names, state):
            for worth, mask in ground.masks.get(place, {}).items():
                if stands & mask > 0:
                    read, behind = told_by(head, names, worth)
                    sign, then = result(names, state, read, worth)
                    line = found.setdefault(read, [])
                    line.append((sign, behind, then, stands & mask))
    return found


def unseen(seen, reach, line):
    """The dict from names and states to the stands to which no lesser log led, which are then noted."""
    fresh = {}
    for sign, names, state, stands in line:
        if state is not None:
            old = seen.get((names, state), 0)
            more = old | closed(reach, stands)
            if more != old:
                seen[(names, state)] = more
                fresh[(names, state)] = fresh.get((names, state), 0) | (more ^ old)
    return fresh


def least_shown(ground, allowed, begin, options, result):
    """The tuple (log, signs) of the least log of a walk within some stands whose last read gives a sign, or None.

    A walk has a state, which is begin at first. The function options gives, from the names of the cells that have
    come and a state, the list of the tuples (read without what it tells, place) of what may be read next; result
    gives, from these, a read and what was told, the sign, the empty string for none, and the state behind it, None
    at the walk's end. Signs are all those that a walk with this log has.
    """
    reach = reaches(ways_within(ground.ways(), allowed))
    line = [([], {((), begin): allowed})]
    seen = {}
    while len(line) > 0:
        further = []
        for log, parts in line:
            found = reads_on(ground, parts, options, result)
            for read in sorted(found):
                signs = [part[0] for part in found[read] if part[0] != ""]
                if len(signs) > 0:
                    return (log + [read], signs)
                fresh = unseen(seen, reach, found[read])
                if len(fresh) > 0:
                    further.append((log + [read], fresh))
        line = further
    return None
