"""Along runs: the rows behind their steps, and runs with as few walkers and reads as show a row or a wrong step."""
from askless.errors import Broken
from askless.machine import READS, Machine
from askless.rows import ASKS, GONE, RANKS, ROOTS, THINGS, gone_fields, thing_of
from askless.runs import go, played, wrong_of
from askless.steps import begin_row, deed_of, outcome, ranks_behind
from askless.tables import Table
from askless.trails import spread_trails, with_walkers

DEEDS = ("writer", "begin", "end")


def rows_along(program, run):
    """The list of the rows at the begin of a run and behind each step of a writer or of the house."""
    machine = Machine(program)
    rows = [begin_row(program)]
    for at, thing in enumerate(run):
        go(machine, thing, at)
        if thing[0] in DEEDS:
            word, name, behind = outcome(program, rows[-1], thing)
            if word != "":
                raise Broken(at)
            rows.append(behind)
    return rows


def links_of_row(program, row):
    """The list of the links of a row, from roots and fields that walkers read to cells."""
    roots = program.roots()
    fields = program.fields()
    chosen_roots, chosen_fields = program.readable
    links = [(("root", roots[at]), row[ROOTS][at]) for at in chosen_roots]
    for cell, thing in zip(program.cells(), row[THINGS]):
        if thing != ():
            links += [(("field", cell, fields[at]), thing[1][at]) for at in chosen_fields]
    return [(place, target) for place, target in links if target not in ("", GONE)]


def trails_behind(program, row, trails, step, moment):
    """The row behind a step, and the dict from the cells with a rank there to their trails."""
    kept = ranks_behind(row[ASKS], row[RANKS], deed_of(program, row, step))
    behind = outcome(program, row, step)[2]
    ranks = {cell: rank for cell, rank in zip(program.cells(), kept) if rank >= 0}
    found = {cell: trails[cell] for cell in ranks}
    spread_trails(links_of_row(program, behind), ranks, found, len(behind[ASKS]), moment)
    return (behind, found)


def trails_along(program, steps):
    """The row behind some steps of writers and of the house, and the trails to its cells with a rank."""
    row = begin_row(program)
    trails = {}
    for at, step in enumerate(steps):
        row, trails = trails_behind(program, row, trails, step, at + 1)
    return (row, trails)


def run_to(program, row, *, most=1000):
    """A run to a row of the table with the fewest steps, and a walker for each cell with a rank, or None."""
    table = Table(program, most=most)
    if row not in table:
        return None
    steps = table.way(row)
    trails = trails_along(program, steps)[1]
    return with_walkers(steps, list(trails.values()))


def wrong_run(program, *, most=1000):
    """A wrong run with the fewest steps of writers and of the house, or None."""
    return wrong_run_by(program, Table(program, most=most))


def wrong_run_by(program, table):
    """A wrong run of a program with the fewest steps that its table tells, or None."""
    if table.is_safe:
        return None
    soonest = [wrong for wrong in table.wrongs() if table.cost(wrong[0]) + 1 == table.fewest]
    ahead, step, word, name = soonest[0]
    steps = table.way(ahead)
    if word == "fault":
        return steps + [step]
    row, trails = trails_along(program, steps)
    if word == "held":
        return with_walkers(steps, [trails[name]]) + [step]
    moment = len(steps) + 1
    behind, trails = trails_behind(program, row, trails, step, moment)
    field = program.fields()[gone_fields(program, thing_of(program, behind, name))[0]]
    return with_walkers(steps + [step], [trails[name] + ((moment, ("field", name, field)),)])


def lean(program, run):
    """A run with the same steps of writers and of the house that is wrong likewise, with the fewest reads."""
    wrong = wrong_of(program, run)
    if wrong[0] == "fault":
        return [step for step in run if step[0] in DEEDS]
    machine = played(program, run[:-1])
    last = run[-1]
    if wrong[0] == "freed":
        walker = [number for number in machine.inside() if wrong[1] in machine.held(number)][0]
        return alone(run, walker, reads_to(machine, walker, machine.held(walker).index(wrong[1])))
    ahead = reads_to(machine, wrong[1], last[2]) if last[0] == "field" else []
    return alone(run, wrong[1], ahead + [len(machine)])


def reads_to(machine, walker, k):
    """The ascending list of the indexes of the steps by which the cell with the number k came to a walker."""
    steps = [at for at, step in enumerate(machine.run()) if step[0] in READS and step[1] == walker]
    came = {}
    for at, read in zip(steps, machine.log(walker)):
        if read[0] != "mark" and read[-1] not in came:
            came[read[-1]] = (at, read)
    at, read = came[k]
    found = [at]
    while read[0] == "field":
        at, read = came[read[1]]
        found.append(at)
    return found[::-1]


def alone(run, walker, reads):
    """A run with the steps of writers and of the house, and of walkers just one's entering and these reads of it.

    Each of the reads but the first one is of a field of the cell that the one ahead told.
    """
    enters = [at for at, step in enumerate(run) if step[0] == "enter"]
    found = []
    for at, step in enumerate(run):
        if step[0] in DEEDS or at == enters[walker]:
            found.append(step)
        elif at in reads:
            k = reads.index(at)
            found.append(("root", 0, step[2]) if k == 0 else ("field", 0, k - 1, step[3]))
    return found
