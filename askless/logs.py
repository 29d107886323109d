"""Logs: what walkers can read at all, in all runs of a right program; and runs that show a log."""
from askless.cheapest import cheapest
from askless.grounds import Ground
from askless.reads import is_log, place_read, step_of
from askless.rows import GONE
from askless.runs import is_run, played
from askless.sights import least_missing, merged, told_by, turns_of


class Logs:
    """The logs of all walkers, in all runs of a right program."""

    def __init__(self, program, *, most=1000):
        self.turns = merged(turns_of(Ground(program, most)))

    def __eq__(self, other):
        return isinstance(other, Logs) and self.turns == other.turns

    def __len__(self):
        return len(self.turns)

    def __contains__(self, thing):
        return is_log(thing) and self.turn_behind(thing) >= 0

    def coming(self, log):
        """The ascending list of the reads that can come next behind a log."""
        at = self.turn_behind(log)
        return [] if at < 0 else list(self.turns[at])

    def count(self, many):
        """How many logs of just so many reads there are."""
        counts = [1 for turn in self.turns]
        for time in range(many):
            counts = [sum([counts[to] for to in turn.values()]) for turn in self.turns]
        return counts[0]

    def first(self, many):
        """The list of the least many logs of them all."""
        found = []
        line = [([], 0)]
        while len(found) < many:
            found.extend([log for log, at in line])
            # Behind each log some read can come, so that no more of them are needed than are to be told.
            line = [(log + [read], to) for log, at in line for read, to in self.turns[at].items()][:many]
        return found[:many]

    def missing(self, other):
        """The least log that these have and other ones have not, or None."""
        return least_missing(self.turns, other.turns)

    def within(self, other):
        """Whether other logs have all of these."""
        return self.missing(other) is None

    def turn_behind(self, log):
        """The number of the turn behind a log, or -1 if no walker has it."""
        at = 0
        for read in log:
            if read not in self.turns[at]:
                return -1
            at = self.turns[at][read]
        return at


def run_of(program, log, *, most=1000):
    """A run with one walker that has a log at its end, with the fewest steps of writers and of the house, or None."""
    ground = Ground(program, most)

    def moves(node):
        """The list of the tuples (cost, step, node) of what can be done at a node."""
        stand, names, many = node
        found = [(1, step, (to, names, many)) for step, to in ground.onward[stand]]
        place = place_read(log[many], names)
        worth = ground.told[ground.core_of[stand]].get(place, GONE)
        if worth != GONE:
            read, behind = told_by(log[many][:-1], names, worth)
            if read == log[many]:
                found.append((0, step_of(read), (stand, behind, many + 1)))
        return found

    starts = [(price, (ground.fresh(core), (), 0)) for core, price in enumerate(ground.prices)]
    found = cheapest(starts, moves, len(log))
    if found is None:
        return None
    begin, steps = found
    return ground.leads[ground.core_of[begin[0]]] + [("enter",)] + steps


def is_run_of(program, log, thing):
    """Whether a value is a run with one walker that enters once, stays and has a log at its end."""
    if not is_run(program, thing):
        return False
    words = [step[0] for step in thing]
    if words.count("enter") != 1 or "leave" in words:
        return False
    return played(program, thing).log(0) == log
