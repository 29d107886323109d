"""Laters: which slow frees of a program can be left to the house, and how much is then under way."""
from askless.along import wrong_run_by
from askless.errors import NoPlace, NotRight, TooMany
from askless.places import all_places, is_place, statement_at, with_spliced
from askless.quiets import MOST_PLACES, is_part, sets_of
from askless.rows import ASKS, LATERS
from askless.runs import wrong_of
from askless.tables import Table


def next_place(place):
    """The place of the next statement in the same body, if there is one."""
    writer, address = place
    return (writer, address[:-1] + (address[-1] + 1,))


def is_slow(program, place):
    """Whether at a place of the program there is a quiet with a free right behind it in the same body."""
    if statement_at(program, place) != ("quiet",) or not is_place(program, next_place(place)):
        return False
    behind = statement_at(program, next_place(place))
    return behind is not None and behind[0] == "free"


def slow_places(program):
    """The ascending list of the places of the slow frees."""
    return [place for place in all_places(program) if is_slow(program, place)]


def is_later(program, place):
    """Whether at a place of the program there is a later."""
    statement = statement_at(program, place)
    return statement is not None and statement[0] == "later"


def later_places(program):
    """The ascending list of the places of the laters."""
    return [place for place in all_places(program) if is_later(program, place)]


def as_later(program, places):
    """The program with a later in the place of each slow free at a list of different places."""
    for place in places:
        if not is_place(program, place) or not is_slow(program, place):
            raise NoPlace(place)
    found = program
    # From the last place on, so that those which are still to come stay where they are.
    for place in sorted(places)[::-1]:
        found = with_spliced(found, place, 2, [("later", statement_at(found, next_place(place))[1])])
    return found


def as_quiet(program, place):
    """The program with a quiet and a free in the place of a later."""
    if not is_place(program, place) or not is_later(program, place):
        raise NoPlace(place)
    return with_spliced(program, place, 1, [("quiet",), ("free", statement_at(program, place)[1])])


def right_table(program, most):
    """The table of a right program that has few slow frees."""
    if len(slow_places(program)) > MOST_PLACES:
        raise TooMany(MOST_PLACES)
    table = Table(program, most=most)
    if not table.is_safe:
        raise NotRight()
    return table


def later_bar(program, places, *, most=1000):
    """How the program goes wrong with laters in the place of some slow frees, and a wrong run, or None."""
    right_table(program, most)
    changed = as_later(program, places)
    run = wrong_run_by(changed, Table(changed, most=most))
    return None if run is None else (wrong_of(changed, run)[0], run)


def greatest_laters(program, *, most=1000):
    """The ascending list of the greatest sets of slow frees in the place of which there can be laters."""
    right_table(program, most)
    greatest = []
    # A part of a set with which the program is right is such a set, too.
    for chosen in sets_of(program, slow_places(program))[::-1]:
        known = any([is_part(chosen, other) for other in greatest])
        if not known and Table(as_later(program, chosen), most=most).is_safe:
            greatest.append(chosen)
    return sorted(greatest)


def unfreed(row):
    """How many cells are under way in a row, begun or not."""
    return len(row[LATERS]) + len([name for name in row[ASKS] if name[0] == "~"])


def most_unfreed(program, *, most=1000):
    """The greatest number of cells that are under way at one moment, and a run to one with the fewest steps."""
    table = right_table(program, most)
    rows = table.rows()
    many = max([unfreed(row) for row in rows])
    nearest = min([(table.cost(row), row) for row in rows if unfreed(row) == many])
    return (many, table.way(nearest[1]))
