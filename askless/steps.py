"""Steps of writers and of the house, and the rows behind them."""
from askless.kinds import is_integer, is_name
from askless.rows import ASKS, GONE, LATERS, LOCKS, PLACES, RANKS, ROOTS, THINGS
from askless.rows import cells_quiet, first_gone, rank_of, replaced, spread, standing, thing_of, writers_quiet
from askless.statements import CELLS, named

FREE = -1
STEP_FORMS = {
    "writer": (("number",), ("number", "number")),
    "begin": (("name",),),
    "end": (("name",),),
    "enter": ((),),
    "leave": (("number",),),
    "root": (("number", "name"),),
    "field": (("number", "number", "name"),),
    "mark": (("number", "number"),),
}


def is_step(thing):
    """Whether a value has a form of a step, of a writer, the house or a walker."""
    if not isinstance(thing, tuple) or len(thing) == 0 or not isinstance(thing[0], str):
        return False
    return any([has_parts(kinds, thing[1:]) for kinds in STEP_FORMS.get(thing[0], ())])


def has_parts(kinds, parts):
    """Whether there is a number or a name, as kinds tell, for each kind."""
    if len(parts) != len(kinds):
        return False
    numbers = [is_integer(part) and part >= 0 for kind, part in zip(kinds, parts) if kind == "number"]
    return all(numbers) and all([is_name(part) for kind, part in zip(kinds, parts) if kind == "name"])


def writer_steps(program, row, writer):
    """The ascending list of the steps of a writer, walkers left aside."""
    statement = standing(program, row, writer)
    if statement is None:
        return []
    if statement[0] == "either":
        return [("writer", writer, b) for b in range(len(statement[1]))]
    if statement[0] == "loop":
        return [("writer", writer, 0), ("writer", writer, 1)]
    if statement[0] == "lock" and holder_of(program, row, statement[1]) not in (FREE, writer):
        return []
    return [("writer", writer)]


def house_steps(row):
    """The ascending list of the steps of the house, walkers left aside."""
    ends = [("end", name[1:]) for name in sorted(row[ASKS]) if name[0] == "~"]
    return [("begin", cell) for cell in row[LATERS]] + ends


def all_steps(program, row):
    """The ascending list of the steps of the house and of all writers, walkers left aside."""
    steps = house_steps(row)
    for writer in range(len(program)):
        steps.extend(writer_steps(program, row, writer))
    return steps


def holder_of(program, row, lock):
    """The number of the writer that holds a lock, or -1."""
    return row[LOCKS][program.lock_at[lock]]


def deed_of(program, row, step):
    """What a step does: a step of the house, or a statement; both halves of a quiet have a name."""
    if step[0] != "writer":
        return step
    statement = standing(program, row, step[1])
    if statement[0] != "quiet":
        return statement
    name = writers_quiet(step[1])
    return ("await", name) if name in row[ASKS] else ("ask", name)


def asked_by(deed):
    """The name of the quiet that a deed asks, or the empty string."""
    if deed[0] == "begin":
        return cells_quiet(deed[1])
    return deed[1] if deed[0] == "ask" else ""


def ended_by(deed):
    """The name of the quiet that is over with a deed, or the empty string."""
    if deed[0] == "end":
        return cells_quiet(deed[1])
    return deed[1] if deed[0] == "await" else ""


def freed_by(deed):
    """The cell that a deed frees, or the empty string."""
    return deed[1] if deed[0] in ("free", "end") else ""


def fault_of(program, row, step, deed):
    """The first name for which a deed is a fault, or the empty string."""
    word = deed[0]
    if word in ("new", "mark", "point", "root", "free", "later"):
        for cell in named(deed, CELLS):
            if is_cell_fault(program, row, word, cell):
                return cell
    elif word == "await":
        return "" if deed[1] in row[ASKS] else deed[1]
    elif word in ("lock", "unlock"):
        own = holder_of(program, row, deed[1]) == step[1]
        return deed[1] if own == (word == "lock") else ""
    return ""


def is_cell_fault(program, row, word, cell):
    """Whether a statement of a word is a fault for a cell that it names."""
    lacking = thing_of(program, row, cell) == ()
    if word == "new":
        return not lacking
    if word in ("free", "later"):
        return lacking or cell in row[LATERS] or cells_quiet(cell) in row[ASKS]
    return lacking


def asks_behind(asks, deed):
    """The quiets that are asked behind a deed."""
    name = asked_by(deed)
    changed = name if name != "" else ended_by(deed)
    if changed in asks:
        at = asks.index(changed)
        asks = asks[:at] + asks[at + 1:]
    return asks + (name,) if name != "" else asks


def ranks_behind(asks, ranks, deed):
    """The ranks behind a deed that asks a quiet or ends one, before they spread."""
    name = ended_by(deed)
    changed = name if name != "" else asked_by(deed)
    if changed not in asks:
        return ranks
    at = asks.index(changed)
    # Whoever can hold a cell of a lower rank had begun by then, and has left if the quiet is over.
    lower = [-1 if name != "" else rank for rank in ranks]
    return tuple([rank - 1 if rank > at else low for rank, low in zip(ranks, lower)])


def with_thing(program, row, cell, thing):
    """A row in which another thing is told of a cell."""
    return replaced(row, THINGS, replaced(row[THINGS], program.cell_at[cell], thing))


def make(program, row, step, deed):
    """The row behind a new."""
    return with_thing(program, row, deed[1], (0, ("",) * len(program.field_at)))


def put_mark(program, row, step, deed):
    """The row behind a mark."""
    return with_thing(program, row, deed[1], (deed[2], thing_of(program, row, deed[1])[1]))


def put_field(program, row, step, deed):
    """The row behind a point."""
    mark, targets = thing_of(program, row, deed[1])
    return with_thing(program, row, deed[1], (mark, replaced(targets, program.field_at[deed[2]], deed[3])))


def put_root(program, row, step, deed):
    """The row behind a root."""
    return replaced(row, ROOTS, replaced(row[ROOTS], program.root_at[deed[1]], deed[2]))


def without_target(targets, cell):
    """Targets in which a cell is gone."""
    return tuple([GONE if target == cell else target for target in targets])


def take(program, row, step, deed):
    """The row behind a free, by a writer or by the house."""
    lacking = with_thing(program, row, deed[1], ())
    things = [(thing[0], without_target(thing[1], deed[1])) if thing else () for thing in lacking[THINGS]]
    return replaced(replaced(lacking, THINGS, tuple(things)), ROOTS, without_target(row[ROOTS], deed[1]))


def put_later(program, row, step, deed):
    """The row behind a later."""
    return replaced(row, LATERS, tuple(sorted(row[LATERS] + (deed[1],))))


def take_later(program, row, step, deed):
    """The row behind a begin."""
    return replaced(row, LATERS, tuple([cell for cell in row[LATERS] if cell != deed[1]]))


def take_lock(program, row, step, deed):
    """The row behind a lock."""
    return replaced(row, LOCKS, replaced(row[LOCKS], program.lock_at[deed[1]], step[1]))


def put_lock(program, row, step, deed):
    """The row behind an unlock."""
    return replaced(row, LOCKS, replaced(row[LOCKS], program.lock_at[deed[1]], FREE))


DOINGS = {
    "new": make,
    "mark": put_mark,
    "point": put_field,
    "root": put_root,
    "free": take,
    "end": take,
    "later": put_later,
    "begin": take_later,
    "lock": take_lock,
    "unlock": put_lock,
}


def address_behind(program, row, step, deed):
    """The address of a writer behind its step."""
    here = row[PLACES][step[1]]
    statement, onward, starts = program.spots[step[1]][here]
    if statement[0] == "either":
        return starts[step[2]]
    if statement[0] == "loop":
        return starts[0] if step[2] == 1 else onward
    # The first half of a quiet leaves its writer where it stands.
    return here if statement[0] == "quiet" and deed[0] == "ask" else onward


def done(program, row, step, deed):
    """The row behind a step that is no fault, quiets and ranks left as they are."""
    if step[0] == "writer":
        address = address_behind(program, row, step, deed)
        moved = replaced(row, PLACES, replaced(row[PLACES], step[1], address))
    else:
        moved = row
    doing = DOINGS.get(deed[0])
    return moved if doing is None else doing(program, moved, step, deed)


def outcome(program, row, step):
    """The tuple (word, name, row) of a step: word and name if it is wrong, and the row behind it.

    What is a fault, or frees a cell that is held, is not done: the row is the one ahead then.
    """
    deed = deed_of(program, row, step)
    fault = fault_of(program, row, step, deed)
    if fault != "":
        return ("fault", fault, row)
    ranked = replaced(row, RANKS, ranks_behind(row[ASKS], row[RANKS], deed))
    ranked = replaced(ranked, ASKS, asks_behind(row[ASKS], deed))
    # Ranks that had spread have spread behind a quiet, too: none falls below one that was lower.
    cell = freed_by(deed)
    if cell != "" and rank_of(program, ranked, cell) >= 0:
        return ("held", cell, row)
    behind = done(program, ranked, step, deed)
    behind = replaced(behind, RANKS, spread(program, behind))
    cell = first_gone(program, behind)
    return ("gone", cell, behind) if cell != "" else ("", "", behind)


def outcomes(program, row):
    """The ascending list of the tuples (step, word, name, row) of all steps, as outcome has them."""
    return [(step, *outcome(program, row, step)) for step in all_steps(program, row)]


def begin_row(program):
    """The row at the begin."""
    places = tuple([(0,) for spots in program.spots])
    things = tuple([() for cell in program.cell_at])
    roots = tuple(["" for root in program.root_at])
    locks = tuple([FREE for lock in program.lock_at])
    ranks = tuple([-1 for cell in program.cell_at])
    return (places, things, roots, locks, (), ranks, ())


def followers(program, row):
    """The ascending list of the tuples (step, row) of all steps that are not wrong."""
    return [(step, behind) for step, word, name, behind in outcomes(program, row) if word == ""]


def wrongs(program, row):
    """The ascending list of the tuples (step, word, name) of all steps that are wrong."""
    return [(step, word, name) for step, word, name, behind in outcomes(program, row) if word != ""]
