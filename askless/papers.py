"""Papers: what shows that a change has a switch, or has none."""
from askless.changes import are_different, changes, is_path, is_way, shortest_trail
from askless.entries import roots_of
from askless.switches import cells_changed, copies, links_of, reach, switches, two_trails, two_ways


def cells_apart(one, switch):
    """The ascending list of the cells that a graph reaches by places other than a switch."""
    return reach(one, [one[root] for root in roots_of(one) if root != switch], switch)


def fields_of(graph, cell):
    """The list of the places of the fields of a cell."""
    return [("field", cell, field) for field in graph.field_at]


def leading(graph, cells):
    """The list of the places that lead to one of some cells."""
    return [place for place in graph.places() if graph[place] in cells]


def switch_paper(one, other):
    """What shows that there are no changes, that there are two ways apart, or what the last switch does."""
    changed = changes(one, other)
    if len(changed) == 0:
        return ("idle",)
    known = switches(one, other)
    if len(known) == 0:
        return ("two", *two_ways(one, other))
    switch = known[-1]
    ends = cells_changed(one, other, switch)
    reasons = []
    for cell in copies(one, other, switch):
        toward = shortest_trail(other, [switch], leading(other, [cell]), ())
        goals = leading(other, ends)
        onward = [] if cell in ends else shortest_trail(other, fields_of(other, cell), goals, switch)
        reasons.append((cell, toward, onward))
    tails = () if switch in changed else two_trails(links_of(one, changed), one[switch])
    return ("one", switch, cells_apart(one, switch), reasons, tails)


def is_switch_paper(one, other, thing):
    """Whether a value shows that there are no changes, that there are two ways apart, or what the last switch does."""
    changed = changes(one, other)
    known = switches(one, other)
    if not isinstance(thing, tuple) or len(thing) == 0:
        return False
    if len(changed) == 0:
        return thing == ("idle",)
    if len(known) == 0:
        return thing[0] == "two" and len(thing) == 3 and are_apart(one, other, thing[1:])
    if thing[0] != "one" or len(thing) != 5 or thing[1] != known[-1] or thing[2] != cells_apart(one, known[-1]):
        return False
    return are_reasons(one, other, known[-1], thing[3]) and are_tails(one, changed, known[-1], thing[4])


def are_apart(one, other, ways):
    """Whether two values are ways without a common place."""
    return all([is_way(one, other, way) for way in ways]) and are_different(ways[0] + ways[1])


def are_reasons(one, other, switch, thing):
    """Whether a value is the list of the tuples that show for all copies why they are needed."""
    if not isinstance(thing, list) or not all([isinstance(part, tuple) and len(part) == 3 for part in thing]):
        return False
    if [part[0] for part in thing] != copies(one, other, switch):
        return False
    ends = cells_changed(one, other, switch)
    for cell, toward, onward in thing:
        if not is_toward(other, switch, cell, toward) or not is_onward(other, switch, cell, ends, onward):
            return False
    return True


def is_toward(other, switch, cell, thing):
    """Whether a value is a path that begins with the switch and leads to a cell."""
    return is_path(other, thing) and thing[0] == switch and other[thing[-1]] == cell


def is_onward(other, switch, cell, ends, thing):
    """Whether a value is a path from a cell to one that has a change, not over the switch; [] if the cell has one."""
    if cell in ends:
        return isinstance(thing, list) and len(thing) == 0
    if not is_path(other, thing) or switch in thing:
        return False
    return thing[0] in fields_of(other, cell) and other[thing[-1]] in ends


def are_tails(one, changed, switch, thing):
    """Whether a value is a tuple of two tails without a common place, () if the switch is a change."""
    if not isinstance(thing, tuple):
        return False
    if switch in changed:
        return len(thing) == 0
    if len(thing) != 2 or not all([is_tail(one, changed, switch, tail) for tail in thing]):
        return False
    return are_different(thing[0] + thing[1])


def is_tail(one, changed, switch, thing):
    """Whether a value is a list of places from the cell to which the switch leads on to a change."""
    if not is_path(one, thing):
        return False
    return thing[0][0] != "root" and thing[0][1] == one[switch] and thing[-1] in changed
