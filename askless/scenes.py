"""Scenes: a moment of a script, its graph and what walkers can hold then; and how statements change it."""
from askless.rows import GONE
from askless.trails import spread_trails


def place_put(statement):
    """The place at which a mark, a point or a root puts something."""
    if statement[0] == "point":
        return ("field", statement[1], statement[2])
    return (statement[0], statement[1])


def is_fault(graph, statement):
    """Whether a statement of a script is a fault on a graph."""
    word = statement[0]
    there = graph.label_of
    if word == "quiet":
        return False
    if word in ("new", "copy"):
        return statement[1] in there or (word == "copy" and statement[2] not in there)
    if word == "free":
        return statement[1] not in there
    if place_put(statement) not in graph.worths:
        return True
    return word != "mark" and statement[-1] != "" and statement[-1] not in there


def change(graph, statement):
    """Do a statement of a script, which is no fault, on a graph."""
    word = statement[0]
    if word == "new":
        add_cell(graph, statement[1], statement[1], 0, [""] * len(graph.field_at))
    elif word == "copy":
        cell = statement[2]
        targets = [graph.worths[("field", cell, field)] for field in graph.field_at]
        add_cell(graph, statement[1], graph.label_of[cell], graph.worths[("mark", cell)], targets)
    elif word == "free":
        take_cell(graph, statement[1])
    elif word != "quiet":
        graph.worths[place_put(statement)] = statement[-1]


def add_cell(graph, cell, label, mark, targets):
    """Put a cell into a graph."""
    graph.label_of[cell] = label
    graph.worths[("mark", cell)] = mark
    for field, target in zip(graph.field_at, targets):
        graph.worths[("field", cell, field)] = target


def take_cell(graph, cell):
    """Take a cell out of a graph: what led to it is gone."""
    del graph.label_of[cell]
    del graph.worths[("mark", cell)]
    for field in graph.field_at:
        del graph.worths[("field", cell, field)]
    for place in list(graph.worths):
        if graph.worths[place] == cell:
            graph.worths[place] = GONE


class Scene:
    """A moment of a script, and for each cell that a walker can hold then its latest begin and its reads."""

    def __init__(self, graph):
        self.graph = graph.copied()
        self.moment = 0
        self.begins = {}
        self.trails = {}
        self.settle()

    def settle(self):
        """Let walkers read what stands now."""
        graph = self.graph
        links = [(place, graph.worths[place]) for place in graph.places()]
        links = [(place, worth) for place, worth in links if worth in graph.label_of]
        spread_trails(links, self.begins, self.trails, self.moment, self.moment)

    def go_on(self, statement):
        """Do a statement that is no fault."""
        change(self.graph, statement)
        self.moment += 1
        if statement[0] == "quiet":
            self.begins = {}
            self.trails = {}
        if statement[0] == "free" and statement[1] in self.begins:
            del self.begins[statement[1]]
            del self.trails[statement[1]]
        self.settle()

    def told_begins(self):
        """The dict from the cells that a walker can hold, ascending, to its latest begin."""
        return {cell: self.begins[cell] for cell in sorted(self.begins)}

    def gone_places(self):
        """The ascending list of the places that walkers can read and that tell what is gone."""
        worths = self.graph.worths
        places = [place for place in self.graph.places() if worths[place] == GONE]
        return [place for place in places if place[0] == "root" or place[1] in self.begins]

    def latest_gone(self):
        """The latest begin of a walker that can read what is gone, or -1 if there is none."""
        places = self.gone_places()
        return max([self.moment if place[0] == "root" else self.begins[place[1]] for place in places], default=-1)
