"""Graphs: cells that point to one another, with the roots that lead to them."""
from askless.errors import BadTarget, NoPlace, Unknown, Wrong
from askless.kinds import is_list, is_mark, is_name
from askless.programs import MOST_FIELDS, MOST_ROOTS, are_names, numbered
from askless.rows import GONE


def are_targets(things):
    """Whether all values of a list or a tuple are strings."""
    return all([isinstance(thing, str) for thing in things])


def are_roots(thing):
    """Whether a value is a dict from one or two names to strings."""
    if not isinstance(thing, dict) or not 1 <= len(thing) <= MOST_ROOTS:
        return False
    return all([is_name(root) for root in thing]) and are_targets(list(thing.values()))


def are_cells(thing, fields):
    """Whether a value is a dict from names to tuples of a mark and a tuple of so many strings."""
    if not isinstance(thing, dict) or not all([is_name(cell) for cell in thing]):
        return False
    return all([is_cell(part, fields) for part in thing.values()])


def is_cell(thing, fields):
    """Whether a value is a tuple of a mark and a tuple of so many strings."""
    if not isinstance(thing, tuple) or len(thing) != 2 or not is_mark(thing[0]):
        return False
    return isinstance(thing[1], tuple) and len(thing[1]) == fields and are_targets(thing[1])


def are_labels(thing):
    """Whether a value is None or a dict from names to names."""
    if thing is None:
        return True
    return isinstance(thing, dict) and all([is_name(cell) and is_name(label) for cell, label in thing.items()])


def is_words(thing):
    """Whether a value is a tuple of strings, as places of graphs are."""
    return isinstance(thing, tuple) and all([isinstance(part, str) for part in thing])


class Graph:
    """What stands at one moment: the targets of roots and fields, the marks and labels of cells."""

    def __init__(self, fields, roots, cells, *, labels=None):
        if not are_names(fields, 0, MOST_FIELDS):
            raise Wrong(0)
        if not are_roots(roots):
            raise Wrong(1)
        if not are_cells(cells, len(fields)):
            raise Wrong(2)
        if not are_labels(labels):
            raise Wrong(3)
        self.field_at = numbered(fields)
        self.label_of = {cell: cell for cell in sorted(cells)}
        self.worths = {("root", root): target for root, target in roots.items()}
        for cell, thing in cells.items():
            self.worths[("mark", cell)] = thing[0]
            for field, target in zip(self.field_at, thing[1]):
                self.worths[("field", cell, field)] = target
        for place in sorted(self.worths):
            if place[0] != "mark" and not self.is_target_here(self.worths[place]) and self.worths[place] != GONE:
                raise BadTarget(place)
        given = {} if labels is None else labels
        for cell in sorted(given):
            if cell not in self.label_of:
                raise Unknown(cell)
            self.label_of[cell] = given[cell]

    def __eq__(self, other):
        return (isinstance(other, Graph) and self.field_at == other.field_at
                and self.label_of == other.label_of and self.worths == other.worths)

    def __len__(self):
        return len(self.label_of)

    def __contains__(self, place):
        return is_words(place) and place in self.worths

    def __iter__(self):
        raise TypeError("a graph is not iterated over")

    def __getitem__(self, place):
        if not is_words(place) or place not in self.worths:
            raise NoPlace(place)
        return self.worths[place]

    def __setitem__(self, place, worth):
        if not is_words(place) or place not in self.worths:
            raise NoPlace(place)
        if not (is_mark(worth) if place[0] == "mark" else self.is_target_here(worth)):
            raise BadTarget(place)
        self.worths[place] = worth

    def fields(self):
        """The ascending list of the names of the fields."""
        return list(self.field_at)

    def roots(self):
        """The ascending list of the names of the roots."""
        return sorted([place[1] for place in self.worths if place[0] == "root"])

    def cells(self):
        """The ascending list of the names of the cells."""
        return sorted(self.label_of)

    def places(self):
        """The ascending list of all places."""
        return sorted(self.worths)

    def reached(self):
        """The ascending list of the cells to which roots lead, and fields of such cells."""
        line = [self.worths[("root", root)] for root in self.roots()]
        found = {}
        while len(line) > 0:
            cell = line.pop()
            if cell in self.label_of and cell not in found:
                found[cell] = True
                line.extend([self.worths[("field", cell, field)] for field in self.field_at])
        return sorted(found)

    def label(self, cell):
        """The label of a cell."""
        if not is_name(cell) or cell not in self.label_of:
            raise Unknown(cell)
        return self.label_of[cell]

    def copied(self):
        """An equal graph of its own."""
        graph = Graph((), {"r": ""}, {})
        graph.field_at = dict(self.field_at)
        graph.label_of = dict(self.label_of)
        graph.worths = {place: self.worths[place] for place in self.worths}
        return graph

    def is_target_here(self, thing):
        """Whether a value is a cell of the graph, or the empty string for none."""
        return isinstance(thing, str) and (thing == "" or thing in self.label_of)
