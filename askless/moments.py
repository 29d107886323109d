"""Moments: whether what an entry tells stood at one moment."""
from askless.cheapest import cheapest
from askless.grounds import Ground, things_told
from askless.machine import READS
from askless.reads import place_read, step_of, told_reads
from askless.runs import played, walk
from askless.unstood import least_unstood


def is_entry(log):
    """Whether a log is one of a walk that reads each root, field and mark at most once."""
    places = [read[:-1] for read in log]
    return len(set(places)) == len(places)


def moments_of(run, walker):
    """The list of the moments of a walker of a run, as numbers of steps done."""
    steps = list(run)
    enters = [at for at, step in enumerate(steps) if step == ("enter",)]
    reads = [at for at, step in enumerate(steps) if step[0] in READS and step[1] == walker]
    leaves = [at for at, step in enumerate(steps) if step == ("leave", walker)]
    last = (reads[-1:] + leaves + [len(steps)])[0]
    return list(range(enters[walker] + 1, last + 1))


def makings(scenes):
    """For each moment the tuple of how often each cell has been made by then."""
    many = [0 for thing in scenes[0][1]]
    ahead = [() for thing in many]
    found = []
    for places, things, roots in scenes:
        for at, thing in enumerate(things):
            if thing != () and ahead[at] == ():
                many[at] += 1
        ahead = things
        found.append(tuple(many))
    return found


def fitting(program, run, walker):
    """The ascending list of the moments that fit the log of a walker of a run, as numbers of steps done."""
    machine = played(program, run)
    names = machine.held(walker)
    reads = told_reads(machine.log(walker), names)
    scenes = list(walk(program, run))
    made = makings(scenes)
    times = moments_of(run, walker)
    came = [program.cell_at[name] for name in names]
    found = []
    for time in times:
        places, things, roots = scenes[time]
        told = things_told(program, things, roots)
        same = all([made[time][at] == made[times[-1]][at] for at in came])
        if same and all([told.get(place) == worth for place, worth in reads]):
            found.append(time)
    return found


def never_stood(program, *, most=1000):
    """The least log of an entry of which, in some run, no moment fits, or None."""
    found = least_unstood(Ground(program, most))
    return None if found is None else found[0]


def run_never_stood(program, *, most=1000):
    """A run with one walker that has this log and no fitting moment, with the fewest steps, or None."""
    ground = Ground(program, most)
    unstood = least_unstood(ground)
    if unstood is None:
        return None
    log, finals = unstood
    reads = [told_reads(log, names) for names in finals]

    def agrees(core, at, first, last):
        """Whether at a core stands what some reads told, by one of the names of the cells."""
        told = ground.told[core]
        return all([told.get(place) == worth for place, worth in reads[at][first:last]])

    def moves(node):
        """The list of the tuples (cost, step, node) of what can be done at a node."""
        stand, at, many = node
        found = [(1, step, (to, at, many)) for step, to in ground.onward[stand]]
        found = [move for move in found if not agrees(ground.core_of[move[2][0]], at, 0, len(log))]
        if agrees(ground.core_of[stand], at, many, many + 1):
            found.append((0, step_of(log[many]), (stand, at, many + 1)))
        return found

    starts = []
    for core, price in enumerate(ground.prices):
        for at in range(len(finals)):
            if agrees(core, at, 0, 1) and not agrees(core, at, 0, len(log)):
                starts.append((price, (ground.fresh(core), at, 0)))
    begin, steps = cheapest(starts, moves, len(log))
    return ground.leads[ground.core_of[begin[0]]] + [("enter",)] + steps
