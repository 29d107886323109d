"""Chains: what walks along one field miss, what strangers they meet, and whether they meet a cell twice."""
from askless.errors import NoChain
from askless.grounds import Ground, closed, reaches
from askless.reads import is_less
from askless.sights import told_by


def ground_of(program, chain, most):
    """The ground of a program that has a chain."""
    root, field = chain
    if root not in program.roots() or field not in program.fields():
        raise NoChain(root, field)
    return Ground(program, most)


def members(told, chain):
    """The list of the cells that are reached along a chain where this stands."""
    root, field = chain
    found = []
    cell = told[("root", root)]
    while ("mark", cell) in told and cell not in found:
        found.append(cell)
        cell = told[("field", cell, field)]
    return found


def stands_with(ground, chain, cell):
    """The set of the stands at which a cell is a member, as the bits of an integer."""
    found = 0
    for core, told in enumerate(ground.told):
        if cell in members(told, chain):
            found = found | ground.stands_of(core)
    return found


def place_next(chain, log, names):
    """The next read along a chain behind a log, without what it tells, and its place."""
    root, field = chain
    if len(log) == 0:
        return (("root", root), ("root", root))
    k = log[-1][-1]
    return (("field", k, field), ("field", names[k], field))


def walks_behind(ground, chain, log, parts):
    """The dict from the next reads to dicts from the names of cells that have come and what was told to stands."""
    found = {}
    for names, stands in parts.items():
        head, place = place_next(chain, log, names)
        for worth, mask in ground.masks.get(place, {}).items():
            if stands & mask > 0:
                read, behind = told_by(head, names, worth)
                parts_behind = found.setdefault(read, {})
                parts_behind[(names, worth, behind)] = stands & mask
    return found


def ways_within(ways, allowed):
    """The ways from stands of a set to such stands, none from others."""
    inside = [(allowed >> at) & 1 for at in range(len(ways))]
    return [[to for to in there if inside[at] and inside[to]] for at, there in enumerate(ways)]


def least_walk(ground, chain, allowed, shown):
    """The tuple (log, cell) of the least log of a walk within some stands that shows a cell, or None.

    The function shown tells from the names of the cells that came ahead and what a read told which cell
    this shows, the empty string if none.
    """
    reach = reaches(ways_within(ground.ways(), allowed))
    line = [([], {(): allowed})]
    seen = {}
    while len(line) > 0:
        further = []
        for log, parts in line:
            found = walks_behind(ground, chain, log, parts)
            for read in sorted(found):
                cells = [shown(names, worth) for names, worth, behind in found[read]]
                if any(cells):
                    return (log + [read], min([cell for cell in cells if cell != ""]))
                fresh = unseen(seen, reach, read, found[read]) if read[-1] >= 0 else {}
                if len(fresh) > 0:
                    further.append((log + [read], fresh))
        line = further
    return None


def unseen(seen, reach, read, parts):
    """The dict from names to the stands behind a read that no lesser log led to, which are then noted."""
    fresh = {}
    for (names, worth, behind), stands in parts.items():
        key = (behind, read[-1])
        old = seen.get(key, 0)
        more = old | closed(reach, stands)
        if more != old:
            seen[key] = more
            fresh[behind] = fresh.get(behind, 0) | (more ^ old)
    return fresh


def least_of(found):
    """The least of some tuples (log, cell), of which some may be None, or None."""
    best = None
    for thing in found:
        # Those with the same log come with ascending cells.
        if thing is not None and (best is None or is_less(thing[0], best[0])):
            best = thing
    return best


def missed(program, chain, *, most=1000):
    """The tuple (log, cell) of the least log of a walk that misses a cell, or None."""
    ground = ground_of(program, chain, most)
    found = []
    for cell in program.cells():
        found.append(least_walk(ground, chain, stands_with(ground, chain, cell), missing_of(cell)))
    return least_of(found)


def missing_of(cell):
    """The function that tells whether a read shows that a cell was missed."""
    def shown(names, worth):
        """The cell, if a walk has ended and it never came."""
        return cell if worth == "" and cell not in names else ""
    return shown


def stranger(program, chain, *, most=1000):
    """The tuple (log, cell) of the least log of a walk that has a stranger, or None."""
    ground = ground_of(program, chain, most)
    everywhere = (1 << len(ground.onward)) - 1
    found = []
    for cell in program.cells():
        # A cell that was a member while the walker was in is not freed until it leaves.
        found.append(least_walk(ground, chain, everywhere ^ stands_with(ground, chain, cell), coming_of(cell)))
    return least_of(found)


def coming_of(cell):
    """The function that tells whether a read shows that a cell came."""
    def shown(names, worth):
        """The cell, if it came."""
        return cell if worth == cell else ""
    return shown


def twice(program, chain, *, most=1000):
    """The tuple (log, cell) of the least log of a walk that goes twice to a cell, or None."""
    ground = ground_of(program, chain, most)

    def shown(names, worth):
        """The cell that came, if it had come."""
        return worth if worth in names else ""
    return least_walk(ground, chain, (1 << len(ground.onward)) - 1, shown)


def longest(program, chain, *, most=1000):
    """The greatest number of reads of a walk along a chain, or None if there is none."""
    ground = ground_of(program, chain, most)
    root, field = chain
    reach = reaches(ground.ways())
    parts = led(ground, reach, ("root", root), (1 << len(reach)) - 1)
    many = 1
    seen = {}
    while len(parts) > 0:
        key = tuple(sorted(parts.items()))
        if key in seen:
            return None
        seen[key] = True
        further = {}
        for cell, stands in parts.items():
            for onward, bits in led(ground, reach, ("field", cell, field), stands).items():
                further[onward] = further.get(onward, 0) | bits
        parts = further
        many += 1
    return many


def led(ground, reach, place, stands):
    """The dict from the cells that are told at a place to the stands behind this."""
    masks = ground.masks.get(place, {})
    found = {cell: stands & mask for cell, mask in masks.items() if cell != ""}
    return {cell: closed(reach, bits) for cell, bits in found.items() if bits > 0}
