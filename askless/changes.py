"""Changes: where two graphs differ, and the ways on which walkers come there."""
from askless.entries import places_of, roots_of
from askless.errors import NotPlain, Unlike
from askless.rows import GONE


def check_names(one, other):
    """Refuse graphs that differ in their fields or roots."""
    if one.fields() != other.fields() or one.roots() != other.roots():
        raise Unlike()


def is_plain_graph(graph):
    """Whether nothing is gone in a graph, and each label is the name of its cell."""
    gone = [place for place in graph.places() if graph[place] == GONE]
    return len(gone) == 0 and all([graph.label(cell) == cell for cell in graph.cells()])


def check_pair(one, other):
    """Refuse graphs of which one cannot become the other one here."""
    check_names(one, other)
    for which, graph in enumerate((one, other)):
        if not is_plain_graph(graph):
            raise NotPlain(which)


def shows(one, other):
    """Whether two graphs have the same logs and the same that is gone."""
    check_names(one, other)
    pairs = {}
    partners = {}
    line = [(one[place], other[place]) for place in roots_of(one)]
    while len(line) > 0:
        this, that = line.pop()
        cells = (this in one.label_of, that in other.label_of)
        if cells == (True, True) and this not in pairs and that not in partners:
            if one.label(this) != other.label(that) or one[("mark", this)] != other[("mark", that)]:
                return False
            pairs[this] = that
            partners[that] = this
            line.extend([(one[("field", this, field)], other[("field", that, field)]) for field in one.field_at])
        elif cells == (False, False):
            if this != that:
                return False
        elif pairs.get(this) != that:
            return False
    return True


def changes(one, other):
    """The ascending list of the places of roots, and of cells that both reach, at which two graphs differ."""
    check_pair(one, other)
    others = other.reached()
    both = [cell for cell in one.reached() if cell in others]
    places = roots_of(one) + [place for cell in both for place in places_of(one, cell)]
    return sorted([place for place in places if one[place] != other[place]])


def is_path(graph, thing):
    """Whether a value is a list of one or more places, each but the first of the cell to which the one ahead leads."""
    if not isinstance(thing, list) or len(thing) == 0 or not all([place in graph for place in thing]):
        return False
    return all([place[0] != "root" and place[1] == graph[ahead] for ahead, place in zip(thing, thing[1:])])


def are_different(places):
    """Whether no place stands twice in a list."""
    return len(set(places)) == len(places)


def is_way(one, other, thing):
    """Whether a value is a way: a list of different places from a root to a change."""
    changed = changes(one, other)
    return is_path(one, thing) and are_different(thing) and thing[0][0] == "root" and thing[-1] in changed


def shortest_trail(graph, starts, goals, barred):
    """A list of as few places as possible, from one of starts to one of goals and not over a place, or None."""
    line = [[place] for place in starts if place != barred]
    seen = {}
    at = 0
    while at < len(line):
        trail = line[at]
        at += 1
        if trail[-1] in goals:
            return trail
        cell = graph[trail[-1]]
        if cell in graph.label_of and cell not in seen:
            seen[cell] = True
            line.extend([trail + [place] for place in places_of(graph, cell) if place != barred])
    return None


def shortest_way(one, other, place):
    """A way to a place with the fewest places, or None if it is no change."""
    if place not in changes(one, other):
        return None
    return shortest_trail(one, roots_of(one), [place], ())
