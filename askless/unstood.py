"""Entries that tell what never stood at one moment.

A view is what can be read at a moment. Beside a stand and the names of the cells that have come there is kept
which views, of the moments of the walk by then, fit the reads by then: if none is left, none of the moments fits.
"""
from askless.reads import told_reads
from askless.sights import heads, told_by


def view_of(program, told):
    """The tuple of the tuples (place, worth) of all that can be read where this stands, ascending."""
    line = [told[("root", root)] for root in program.root_at]
    found = {}
    while len(line) > 0:
        cell = line.pop()
        if ("mark", cell) in told and cell not in found:
            found[cell] = True
            line.extend([told[("field", cell, field)] for field in program.field_at])
    return tuple(sorted([(place, worth) for place, worth in told.items() if place[0] == "root" or place[1] in found]))


class Views:
    """The views of a ground, numbered: a set of them is told by the bits of an integer."""

    def __init__(self, ground):
        numbers = {}
        self.at = []
        for told in ground.told:
            view = view_of(ground.source, told)
            if view not in numbers:
                numbers[view] = len(numbers)
            self.at.append(numbers[view])
        self.everything = (1 << len(numbers)) - 1
        self.with_worth = {}
        for view, number in numbers.items():
            for pair in view:
                self.with_worth[pair] = self.with_worth.get(pair, 0) | 1 << number

    def agreeing(self, reads):
        """The set of the views in which stands what was read."""
        found = self.everything
        for pair in reads:
            found = found & self.with_worth.get(pair, 0)
        return found


def is_covered(kept, ahead, views):
    """Whether of some tuples (askings ahead, views) one can do all that another one can, with no other views."""
    return any([other >= ahead and fewer & views == fewer for other, fewer in kept])


def gone_on(ground, views, log, nodes, kept):
    """The list of the nodes (names, stand, views) to which writers and the house lead from some.

    Left out are those that are no better than others that are kept, by then or by lesser logs.
    """
    fits = {}
    known = {}
    lines = {}
    for names, stand, left in nodes:
        reads = told_reads(log, names)
        fits[names] = views.agreeing(reads)
        known[names] = (names, tuple(sorted(reads)))
        lines.setdefault(0, []).append((names, stand, left))
    found = []
    many = 0
    # Those with fewer views added come first.
    while len(lines) > 0:
        line = lines.pop(many, [])
        many += 1
        while len(line) > 0:
            names, stand, left = line.pop()
            core = ground.core_of[stand]
            here = kept.setdefault((known[names], core), [])
            if is_covered(here, stand - ground.starts[core], left):
                continue
            here.append((stand - ground.starts[core], left))
            found.append((names, stand, left))
            for step, to in ground.onward[stand]:
                more = left | (fits[names] & 1 << views.at[ground.core_of[to]])
                if more == left:
                    line.append((names, to, left))
                else:
                    lines.setdefault(many, []).append((names, to, more))
    return found


def entries_behind(ground, views, log, nodes):
    """The dict from the next reads of entries to the nodes behind them."""
    found = {}
    fits = {names: views.agreeing(told_reads(log, names)) for names, stand, left in nodes}
    done = [read[:-1] for read in log]
    for names, stand, left in nodes:
        told = ground.told[ground.core_of[stand]]
        for head, place in heads(ground.source, names):
            if head not in done:
                read, behind = told_by(head, names, told[place])
                those = views.with_worth.get((place, told[place]), 0)
                # What no cell comes by, and what no moment can part with, is read by no least log.
                if behind != names or fits[names] & those != fits[names]:
                    found.setdefault(read, []).append((behind, stand, left & those))
    return found


def least_unstood(ground):
    """The least log of an entry of which no moment fits, and the list of the names that its cells can have, or None."""
    views = Views(ground)
    nodes = [((), ground.fresh(core), 1 << view) for core, view in enumerate(views.at)]
    line = [([], nodes)]
    while len(line) > 0:
        further = []
        kept = {}
        for log, nodes in line:
            found = entries_behind(ground, views, log, gone_on(ground, views, log, nodes, kept))
            for read in sorted(found):
                finals = [names for names, stand, left in found[read] if left == 0]
                if len(finals) > 0:
                    return (log + [read], sorted(set(finals)))
                further.append((log + [read], found[read]))
        line = further
    return None
