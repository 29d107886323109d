"""Entries that tell what never stood at one moment.

A view is what can be read at a moment. If all that a walk has read by then stands at a later moment of it, it may as
well begin there: it can read all this at once. So but for the moment of its begin no moment of a walk needs to fit what
it has read by then, and a walk of which no moment fits is one that reads at last what its begin does not tell.
"""
from askless.reads import told_reads
from askless.sights import heads, told_by


def view_of(program, told):
    """The tuple of the tuples (place, worth) of all that can be read where this stands, ascending."""
    line = [told[("root", root)] for root in program.root_at]
    found = {}
    while len(line) > 0:
        cell = line.pop()
        if ("mark", cell) in told and cell not in found:
            found[cell] = True
            line.extend([told[("field", cell, field)] for field in program.field_at])
    return tuple(sorted([(place, worth) for place, worth in told.items() if place[0] == "root" or place[1] in found]))


class Views:
    """The views of a ground, numbered: a set of them is told by the bits of an integer."""

    def __init__(self, ground):
        numbers = {}
        self.at = []
        for told in ground.told:
            view = view_of(ground.source, told)
            if view not in numbers:
                numbers[view] = len(numbers)
            self.at.append(numbers[view])
        self.everything = (1 << len(numbers)) - 1
        self.with_worth = {}
        for view, number in numbers.items():
            for pair in view:
                self.with_worth[pair] = self.with_worth.get(pair, 0) | 1 << number

    def agreeing(self, reads):
        """The set of the views in which stands what was read."""
        found = self.everything
        for pair in reads:
            found = found & self.with_worth.get(pair, 0)
        return found


def gone_on(ground, views, log, nodes, kept):
    """The list of the nodes (names, stand, view) to which writers and the house lead from some.

    The view is that of the begin. Left out are nodes that can do no more than others which are kept, by then or by
    lesser logs: kept tells how many askings lay ahead of their begins.
    """
    fits = {}
    known = {}
    for names, stand, view in nodes:
        reads = told_reads(log, names)
        fits[names] = views.agreeing(reads)
        known[names] = (names, tuple(sorted(reads)))
    found = []
    line = list(nodes)
    while len(line) > 0:
        names, stand, view = line.pop()
        core = ground.core_of[stand]
        key = (known[names], core, view)
        ahead = stand - ground.starts[core]
        if ahead > kept.get(key, -1):
            kept[key] = ahead
            found.append((names, stand, view))
            behind = [(to, 1 << views.at[ground.core_of[to]]) for step, to in ground.onward[stand]]
            line.extend([(names, to, view) for to, bit in behind if fits[names] & bit == 0])
    return found


def entries_behind(ground, views, log, nodes):
    """The dict from the next reads of entries to the nodes behind them, the view None if it does not tell this."""
    found = {}
    fits = {names: views.agreeing(told_reads(log, names)) for names, stand, view in nodes}
    done = [read[:-1] for read in log]
    for names, stand, view in nodes:
        told = ground.told[ground.core_of[stand]]
        for head, place in heads(ground.source, names):
            if head not in done:
                read, behind = told_by(head, names, told[place])
                those = views.with_worth.get((place, told[place]), 0)
                # What no cell comes by, and what no moment can part with, is read by no least log.
                if behind != names or fits[names] & those != fits[names]:
                    found.setdefault(read, []).append((behind, stand, view if those & 1 << view > 0 else None))
    return found


def least_unstood(ground):
    """The least log of an entry of which no moment fits, and the list of the names that its cells can have, or None."""
    views = Views(ground)
    line = [([], [((), ground.fresh(core), view) for core, view in enumerate(views.at)])]
    while len(line) > 0:
        further = []
        kept = {}
        for log, nodes in line:
            found = entries_behind(ground, views, log, gone_on(ground, views, log, nodes, kept))
            for read in sorted(found):
                finals = [names for names, stand, view in found[read] if view is None]
                if len(finals) > 0:
                    return (log + [read], sorted(set(finals)))
                further.append((log + [read], found[read]))
        line = further
    return None
