"""Grounds: where one walker can be in the runs of a right program, and what stands there."""
from askless.errors import NotRight
from askless.rows import ASKS, GONE, RANKS, ROOTS, THINGS, replaced
from askless.steps import deed_of, followers, ranks_behind
from askless.tables import Table


def things_told(program, things, roots):
    """The dict from all places that there are at a moment to what stands there."""
    told = {("root", root): target for root, target in zip(program.root_at, roots)}
    for cell, thing in zip(program.cell_at, things):
        if thing != ():
            told[("mark", cell)] = thing[0]
            for field, target in zip(program.field_at, thing[1]):
                told[("field", cell, field)] = target
    return told


def reaches(ways):
    """For each number the set of those to which ways lead from it, itself too, as the bits of an integer."""
    found = [1 << at for at in range(len(ways))]
    # Ways mostly lead on to greater numbers, so that few turns are needed from the last one on.
    order = list(range(len(ways)))[::-1]
    rising = True
    while rising:
        rising = False
        for at in order:
            bits = found[at]
            for to in ways[at]:
                bits = bits | found[to]
            if bits != found[at]:
                found[at] = bits
                rising = True
    return found


def closed(reach, bits):
    """The set of the numbers that are reached from those of a set."""
    found = 0
    while bits > 0:
        lowest = bits & -bits
        more = reach[lowest.bit_length() - 1]
        found = found | more
        bits = bits ^ (bits & more)
    return found


class Ground:
    """The stands of one walker in the runs of a right program, numbered.

    A stand is a core, that is a row without ranks, and a number of askings: those that lay ahead of the
    walker's begin. The others are not over as long as it is in. A set of stands is told by the bits of an integer.
    """

    def __init__(self, program, most):
        table = Table(program, most=most)
        if not table.is_safe:
            raise NotRight()
        self.source = program
        chosen = {}
        for row in sorted(table.rows(), key=table.cost):
            core = replaced(row, RANKS, ())
            if core not in chosen:
                chosen[core] = row
        # Of all rows with a core, one with the fewest steps to it.
        self.bases = list(chosen.values())
        self.prices = [table.cost(row) for row in self.bases]
        self.leads = [table.way(row) for row in self.bases]
        self.told = [things_told(program, row[THINGS], row[ROOTS]) for row in self.bases]
        self.starts = []
        self.core_of = []
        for core, row in enumerate(self.bases):
            self.starts.append(len(self.core_of))
            self.core_of.extend([core] * (len(row[ASKS]) + 1))
        numbers = {core: number for number, core in enumerate(chosen)}
        self.onward = []
        for row in self.bases:
            moves = [(step, deed_of(program, row, step), numbers[replaced(behind, RANKS, ())])
                     for step, behind in followers(program, row)]
            for ahead in range(len(row[ASKS]) + 1):
                self.onward.append(self.onward_from(row[ASKS], moves, ahead))
        self.masks = self.masked()

    def onward_from(self, asks, moves, ahead):
        """The list of the tuples (step, stand) of the steps for which the walker need not have left."""
        behind = [(step, to, ranks_behind(asks, (ahead,), deed)[0]) for step, deed, to in moves]
        return [(step, self.starts[to] + many) for step, to, many in behind if many >= 0]

    def masked(self):
        """The dict from places to dicts from what is told there to the set of the stands where it is."""
        found = {}
        for core, told in enumerate(self.told):
            bits = self.stands_of(core)
            for place, worth in told.items():
                if worth != GONE:
                    here = found.setdefault(place, {})
                    here[worth] = here.get(worth, 0) | bits
        return found

    def stands_of(self, core):
        """The set of the stands with a core."""
        many = len(self.bases[core][ASKS]) + 1
        return ((1 << many) - 1) << self.starts[core]

    def everywhere(self):
        """The set of all stands."""
        return (1 << len(self.onward)) - 1

    def fresh(self, core):
        """The stand with a core of a walker that begins there."""
        return self.starts[core] + len(self.bases[core][ASKS])

    def ways(self):
        """For each stand those to which a step leads, and the one of a walker that began an asking sooner."""
        found = [[to for step, to in moves] for moves in self.onward]
        for stand, core in enumerate(self.core_of):
            # It can do no more than the later one, so that nothing is lost by taking it along.
            if stand > self.starts[core]:
                found[stand].append(stand - 1)
        return found
