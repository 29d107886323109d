"""Quiets: at which of some places a program needs them to be right, and what shows that."""
from askless.along import wrong_run_by
from askless.errors import NoPlace, TooMany
from askless.places import is_place, put_in
from askless.runs import is_wrong_run
from askless.tables import Table, is_closed

MOST_PLACES = 5


def with_quiets(program, places):
    """The program with a quiet ahead of what stands at each of different places."""
    for place in places:
        if not is_place(program, place):
            raise NoPlace(place)
    found = program
    # From the last place on, so that those which are still to come stay where they are.
    for place in sorted(places)[::-1]:
        found = put_in(found, place, ("quiet",))
    return found


def sets_of(program, places):
    """The list of all sets of places, as ascending lists, those with fewer places first, then ascending."""
    for place in places:
        if not is_place(program, place):
            raise NoPlace(place)
    if len(places) > MOST_PLACES:
        raise TooMany(MOST_PLACES)
    found = [[]]
    for place in sorted(places):
        found = found + [chosen + [place] for chosen in found]
    return sorted(sorted(found), key=len)


def is_part(one, other):
    """Whether each place of a list is in another one."""
    return all([place in other for place in one])


def looked_at(program, places, most):
    """The lists of the tuples (set, table) of the least sets that make the program right, and of those that do not."""
    goods = []
    bads = []
    for chosen in sets_of(program, places):
        if not any([is_part(good, chosen) for good, table in goods]):
            found = Table(with_quiets(program, chosen), most=most)
            if found.is_safe:
                goods.append((chosen, found))
            else:
                bads.append((chosen, found))
    return (goods, bads)


def least_quiets(program, places, *, most=1000):
    """The ascending list of the least sets of places at which quiets make the program right."""
    return sorted([chosen for chosen, table in looked_at(program, places, most)[0]])


def quiet_paper(program, places, *, most=1000):
    """What shows which sets of places make the program right: closed lists of rows, and wrong runs."""
    goods, bads = looked_at(program, places, most)
    told = [(chosen, table.rows()) for chosen, table in goods]
    wrong = [chosen for chosen, table in bads]
    runs = []
    for chosen, table in bads:
        wider = [other for other in wrong if len(other) == len(chosen) + 1 and is_part(chosen, other)]
        if len(wider) == 0:
            runs.append((chosen, wrong_run_by(with_quiets(program, chosen), table)))
    return (sorted(told), sorted(runs))


def is_set(program, places, thing):
    """Whether a value is an ascending list of different ones of some places."""
    if not isinstance(thing, list) or not all([is_place(program, place) and place in places for place in thing]):
        return False
    return thing == sorted(set(thing))


def are_pairs(program, places, thing):
    """Whether a value is a list of tuples of a set of places and any other value."""
    if not isinstance(thing, list):
        return False
    if not all([isinstance(part, tuple) and len(part) == 2 for part in thing]):
        return False
    return all([is_set(program, places, part[0]) for part in thing])


def is_quiet_paper(program, places, goods, bads):
    """Whether two values show for each set of places whether quiets there make the program right."""
    sets = sets_of(program, places)
    if not are_pairs(program, places, goods) or not are_pairs(program, places, bads):
        return False
    if not all([is_closed(with_quiets(program, chosen), rows) for chosen, rows in goods]):
        return False
    if not all([is_wrong_run(with_quiets(program, chosen), run) for chosen, run in bads]):
        return False
    return all([is_shown(chosen, goods, bads) for chosen in sets])


def is_shown(chosen, goods, bads):
    """Whether a set has one of goods as a part, or is a part of one of bads."""
    right = any([is_part(good, chosen) for good, rows in goods])
    return right or any([is_part(chosen, bad) for bad, run in bads])
