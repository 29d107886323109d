"""Rows: tuples that tell of one moment of a run."""
from askless.kinds import is_integer, is_mark, is_plain

PLACES = 0
THINGS = 1
ROOTS = 2
LOCKS = 3
ASKS = 4
RANKS = 5
LATERS = 6
PARTS = 7
DEPTH = 4
GONE = "?"


def thing_of(program, row, cell):
    """What a row tells of a cell: () if it is lacking, otherwise (mark, targets)."""
    return row[THINGS][program.cell_at[cell]]


def rank_of(program, row, cell):
    """The rank of a cell in a row."""
    return row[RANKS][program.cell_at[cell]]


def is_over(program, row):
    """Whether all writers are at their ends, nothing is under way and nothing begun."""
    begun = [name for name in row[ASKS] if name[0] == "~"]
    if len(begun) > 0 or len(row[LATERS]) > 0:
        return False
    return all([standing(program, row, writer) is None for writer in range(len(program))])


def standing(program, row, writer):
    """The statement at which a writer stands, with tuples for bodies, or None at its end."""
    return program.spots[writer][row[PLACES][writer]][0]


def replaced(parts, at, part):
    """A tuple, perhaps a row, with another part at an index."""
    return parts[:at] + (part,) + parts[at + 1:]


def spread(program, row):
    """The ranks of a row when they have spread from the roots, along the fields, that walkers read."""
    roots, fields = program.readable
    ranks = list(row[RANKS])
    for root in roots:
        target = row[ROOTS][root]
        if target in program.cell_at:
            ranks[program.cell_at[target]] = len(row[ASKS])
    rising = len(fields) > 0
    while rising:
        rising = False
        for at, thing in enumerate(row[THINGS]):
            for field in fields if ranks[at] >= 0 else ():
                to = program.cell_at.get(thing[1][field], at)
                if ranks[to] < ranks[at]:
                    ranks[to] = ranks[at]
                    rising = True
    return tuple(ranks)


def first_gone(program, row):
    """The least cell with a rank that has a field that is gone, of those that walkers read, or the empty string."""
    for cell, thing, rank in zip(program.cell_at, row[THINGS], row[RANKS]):
        if rank >= 0 and GONE in thing[1] and len(gone_fields(program, thing)) > 0:
            return cell
    return ""


def gone_fields(program, thing):
    """The list of the numbers of the fields that are gone, of those that walkers read."""
    return [field for field in program.readable[1] if thing[1][field] == GONE]


def is_row(program, thing):
    """Whether a value is a row of the program, reached or not."""
    if not isinstance(thing, tuple) or len(thing) != PARTS or not is_plain(thing, DEPTH):
        return False
    if not all([isinstance(part, tuple) for part in thing]):
        return False
    if not has_places(program, thing) or not has_things(program, thing):
        return False
    there = [cell for cell in program.cell_at if thing_of(program, thing, cell) != ()]
    if not has_roots(program, thing, there) or not has_locks(program, thing):
        return False
    if not has_asks(program, thing, there) or not has_laters(thing, there):
        return False
    return has_ranks(program, thing)


def has_places(program, row):
    """Whether there is an address of the program for each writer."""
    if len(row[PLACES]) != len(program):
        return False
    return all([address in spots for address, spots in zip(row[PLACES], program.spots)])


def has_things(program, row):
    """Whether each cell is lacking, or has a mark and a target for each field."""
    things = row[THINGS]
    if len(things) != len(program.cell_at):
        return False
    there = [cell for cell, thing in zip(program.cell_at, things) if thing != ()]
    targets = ["", GONE] + there
    return all([thing == () or is_thing(program, thing, targets) for thing in things])


def is_thing(program, thing, targets):
    """Whether a value is a tuple of a mark and one of some targets for each field."""
    if not isinstance(thing, tuple) or len(thing) != 2 or not is_mark(thing[0]):
        return False
    if not isinstance(thing[1], tuple) or len(thing[1]) != len(program.field_at):
        return False
    return all([target in targets for target in thing[1]])


def has_roots(program, row, there):
    """Whether each root has a target, a cell that is there or none; one that no walker reads can be gone."""
    if len(row[ROOTS]) != len(program.root_at):
        return False
    known = ["", *there]
    unread = [GONE, *known]
    read = program.readable[0]
    return all([target in (known if root in read else unread) for root, target in enumerate(row[ROOTS])])


def has_locks(program, row):
    """Whether each lock is held by a writer or by none."""
    if len(row[LOCKS]) != len(program.lock_at):
        return False
    return all([is_integer(holder) and -1 <= holder < len(program) for holder in row[LOCKS]])


def has_asks(program, row, there):
    """Whether different quiets are asked that can be: of the program, a writer, a cell."""
    names = list(program.quiet_names)
    for writer in range(len(program)):
        if standing(program, row, writer) == ("quiet",):
            names.append(writers_quiet(writer))
    names += [cells_quiet(cell) for cell in there]
    asks = row[ASKS]
    return all([name in names for name in asks]) and len(set(asks)) == len(asks)


def has_laters(row, there):
    """Whether different cells are under way, ascending, that are there and not begun."""
    laters = row[LATERS]
    if not all([cell in there and cells_quiet(cell) not in row[ASKS] for cell in laters]):
        return False
    return list(laters) == sorted(set(laters))


def has_ranks(program, row):
    """Whether ranks have spread, none too high, of no lacking cell, with nothing gone in reach."""
    ranks = row[RANKS]
    if len(ranks) != len(program.cell_at):
        return False
    if not all([is_integer(rank) and -1 <= rank <= len(row[ASKS]) for rank in ranks]):
        return False
    if any([rank >= 0 and thing == () for rank, thing in zip(ranks, row[THINGS])]):
        return False
    return spread(program, row) == ranks and first_gone(program, row) == ""


def writers_quiet(writer):
    """The name of the quiet that a writer asks of its own."""
    return "!" + str(writer)


def cells_quiet(cell):
    """The name of the quiet that the house begins for a cell."""
    return "~" + cell
