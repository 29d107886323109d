"""Stuck: writers that wait for a lock which is never given back."""
from askless.rows import standing
from askless.runs import played
from askless.steps import FREE, holder_of
from askless.tables import Table


def awaited(program, row, writer):
    """The writer for which a writer waits, or -1."""
    statement = standing(program, row, writer)
    if statement is None or statement[0] != "lock":
        return FREE
    holder = holder_of(program, row, statement[1])
    return FREE if holder == writer else holder


def line_from(program, row, writer):
    """The list of the writers from one on, each further one awaited by the one ahead, each once; and who comes next."""
    line = [writer]
    ahead = awaited(program, row, writer)
    while ahead != FREE and ahead not in line:
        line.append(ahead)
        ahead = awaited(program, row, ahead)
    return (line, ahead)


def is_stuck(program, row, writer):
    """Whether a writer waits, and those from it on end with one at its end, or go round."""
    line, ahead = line_from(program, row, writer)
    if ahead != FREE:
        return True
    return len(line) > 1 and standing(program, row, line[-1]) is None


def stuck_in(program, row):
    """The ascending list of the writers that are stuck in a row."""
    return [writer for writer in range(len(program)) if is_stuck(program, row, writer)]


def stuck_run(program, *, most=1000):
    """A run with the fewest steps behind which some writer is stuck, or None."""
    table = Table(program, most=most)
    found = [(table.cost(row), row) for row in table.rows() if len(stuck_in(program, row)) > 0]
    return None if len(found) == 0 else table.way(min(found)[1])


def stuck_writers(program, run):
    """The ascending list of the writers that are stuck behind a run."""
    return stuck_in(program, played(program, run).now)


def chain(program, run):
    """The list of the writers from the least stuck one on, each further one awaited by the one ahead."""
    row = played(program, run).now
    stuck = stuck_in(program, row)
    return [] if len(stuck) == 0 else line_from(program, row, stuck[0])[0]
