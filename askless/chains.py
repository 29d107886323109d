"""Chains: what walks along one field miss, what strangers they meet, and whether they meet a cell twice."""
from askless.errors import NoChain
from askless.grounds import Ground, closed, reaches
from askless.hunts import least_shown
from askless.reads import NONE, is_less


def ground_of(program, chain, most):
    """The ground of a program that has a chain."""
    root, field = chain
    if root not in program.roots() or field not in program.fields():
        raise NoChain(root, field)
    return Ground(program, most)


def members(told, chain):
    """The list of the cells that are reached along a chain where this stands."""
    root, field = chain
    found = []
    cell = told[("root", root)]
    while ("mark", cell) in told and cell not in found:
        found.append(cell)
        cell = told[("field", cell, field)]
    return found


def stands_with(ground, chain, cell):
    """The set of the stands at which a cell is a member, as the bits of an integer."""
    found = 0
    for core, told in enumerate(ground.told):
        if cell in members(told, chain):
            found = found | ground.stands_of(core)
    return found


def stands_without(ground, chain, cell):
    """The set of the stands at which a cell is no member."""
    return ground.everywhere() ^ stands_with(ground, chain, cell)


def least_walk(ground, chain, allowed, shown):
    """The tuple (log, cell) of the least log of a walk within some stands that shows a cell, or None.

    The function shown tells from the names of the cells that came ahead and what a read told which cell
    this shows, the empty string if none.
    """
    root, field = chain

    def options(names, last):
        """What is read next, if the cell with the number last has come last, with -1 none yet."""
        if last < 0:
            return [(("root", root), ("root", root))]
        return [(("field", last, field), ("field", names[last], field))]

    def result(names, last, read, worth):
        """The cell that is shown, and the number of the one that has come last; at the end None."""
        return (shown(names, worth), None if worth == "" else read[-1])
    found = least_shown(ground, allowed, NONE, options, result)
    return None if found is None else (found[0], min(found[1]))


def least_of(found):
    """The least of some tuples (log, cell), of which some may be None, or None."""
    best = None
    for thing in found:
        # Those with the same log come with ascending cells.
        if thing is not None and (best is None or is_less(thing[0], best[0])):
            best = thing
    return best


def missed(program, chain, *, most=1000):
    """The tuple (log, cell) of the least log of a walk that misses a cell, or None."""
    ground = ground_of(program, chain, most)
    found = []
    for cell in program.cells():
        found.append(least_walk(ground, chain, stands_with(ground, chain, cell), missing_of(cell)))
    return least_of(found)


def missing_of(cell):
    """The function that tells whether a read shows that a cell was missed."""
    def shown(names, worth):
        """The cell, if a walk has ended and it never came."""
        return cell if worth == "" and cell not in names else ""
    return shown


def stranger(program, chain, *, most=1000):
    """The tuple (log, cell) of the least log of a walk that has a stranger, or None."""
    ground = ground_of(program, chain, most)
    found = []
    for cell in program.cells():
        # A cell that was a member while the walker was in is not freed until it leaves: it never gets a stranger.
        found.append(least_walk(ground, chain, stands_without(ground, chain, cell), coming_of(cell)))
    return least_of(found)


def coming_of(cell):
    """The function that tells whether a read shows that a cell came."""
    def shown(names, worth):
        """The cell, if it came."""
        return cell if worth == cell else ""
    return shown


def twice(program, chain, *, most=1000):
    """The tuple (log, cell) of the least log of a walk that goes twice to a cell, or None."""
    ground = ground_of(program, chain, most)

    def shown(names, worth):
        """The cell that came, if it had come."""
        return worth if worth in names else ""
    return least_walk(ground, chain, ground.everywhere(), shown)


def longest(program, chain, *, most=1000):
    """The greatest number of reads of a walk along a chain, or None if there is none."""
    ground = ground_of(program, chain, most)
    root, field = chain
    reach = reaches(ground.ways())
    parts = led(ground, reach, ("root", root), ground.everywhere())
    many = 1
    seen = {}
    while len(parts) > 0:
        key = tuple(sorted(parts.items()))
        if key in seen:
            return None
        seen[key] = True
        further = {}
        for cell, stands in parts.items():
            for onward, bits in led(ground, reach, ("field", cell, field), stands).items():
                further[onward] = further.get(onward, 0) | bits
        parts = further
        many += 1
    return many


def led(ground, reach, place, stands):
    """The dict from the cells that are told at a place to the stands behind this."""
    masks = ground.masks.get(place, {})
    found = {cell: stands & mask for cell, mask in masks.items() if cell != ""}
    return {cell: closed(reach, bits) for cell, bits in found.items() if bits > 0}
