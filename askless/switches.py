"""Switches: the places that stand on all ways to changes, and the cells that are to be copied for one."""
from askless.changes import changes, shortest_trail
from askless.entries import roots_of
from askless.errors import NoSwitch

# Where ways begin and end: no name is like these.
BEGIN = "<"
END = ">"


def switches(one, other):
    """The list of the places that stand on all ways, in the order in which they stand there."""
    changed = changes(one, other)
    if len(changed) == 0:
        return []
    roots = roots_of(one)
    way = shortest_trail(one, roots, changed, ())
    return [place for place in way if shortest_trail(one, roots, changed, place) is None]


def links_of(graph, changed):
    """The list of the tuples (place, start, end) of all places of a graph: a change leads to the end of ways."""
    found = []
    for place in graph.places():
        start = BEGIN if place[0] == "root" else place[1]
        found.append((place, start, END if place in changed else graph[place]))
    return found


def path_beside(links, used, source):
    """The list of the places of a path from a source to the end, over links that are not used or back over used ones.

    It is None if there is no such path.
    """
    backs = {source: None}
    line = [source]
    at = 0
    while at < len(line) and END not in backs:
        here = line[at]
        at += 1
        for place, start, end in links:
            ahead, there = (end, start) if place in used else (start, end)
            if ahead == here and there not in backs:
                backs[there] = (place, here)
                line.append(there)
    if END not in backs:
        return None
    path = []
    here = END
    while here != source:
        place, here = backs[here]
        path.append(place)
    return path


def trail_over(links, used, source):
    """The list of the places of a trail from a source to the end over used links."""
    found = []
    here = source
    while here != END:
        fits = [(place, end) for place, start, end in links if start == here and place in used and place not in found]
        place, here = fits[0]
        found.append(place)
    return found


def two_trails(links, source):
    """A tuple of two lists of places from a source to the end without a common place, or None."""
    used = []
    for turn in range(2):
        path = path_beside(links, used, source)
        if path is None:
            return None
        # Where the second path goes back over the first one, neither of the two trails goes.
        used = [place for place in used + path if place not in used or place not in path]
    first = trail_over(links, used, source)
    return (first, trail_over(links, [place for place in used if place not in first], source))


def two_ways(one, other):
    """A tuple of two ways without a common place, or None if there are no ways or there is a switch."""
    return two_trails(links_of(one, changes(one, other)), BEGIN)


def reach(graph, targets, barred):
    """The ascending list of the cells to which some targets lead, by fields other than a place."""
    line = list(targets)
    found = {}
    while len(line) > 0:
        cell = line.pop()
        if cell in graph.label_of and cell not in found:
            found[cell] = True
            places = [("field", cell, field) for field in graph.field_at]
            line.extend([graph[place] for place in places if place != barred])
    return sorted(found)


def cells_changed(one, other, switch):
    """The list of the cells that have a change other than a switch."""
    return [place[1] for place in changes(one, other) if place[0] != "root" and place != switch]


def copies(one, other, switch):
    """The ascending list of the cells that are to be copied if the change is shown at a switch."""
    known = switches(one, other)
    if switch not in known:
        raise NoSwitch(switch)
    if switch[0] == "mark":
        return []
    changed = cells_changed(one, other, switch)
    ones = one.reached()
    near = [cell for cell in reach(other, [other[switch]], ()) if cell in ones]
    return [cell for cell in near if any([part in changed for part in reach(other, [cell], switch)])]
