"""Entries: walks of a script that read no place twice and nothing that is gone, and their logs."""
from askless.errors import NoRead
from askless.kinds import is_number, is_plain
from askless.rows import GONE
from askless.scenes import change, is_fault

QUIET = ("quiet",)


class Visitor:
    """A walker of an entry: the moment, what stands then, the cells that have come and the places that were read."""

    def __init__(self, graph):
        self.graph = graph.copied()
        self.moment = 0
        self.found = []
        self.visited = []

    def can_go(self, script, moment):
        """Whether it can wait until a moment of a script: what is done by then is done, up to what it cannot bear."""
        if not self.moment <= moment <= len(script):
            return False
        for statement in script[self.moment:moment]:
            if is_fault(self.graph, statement) or self.is_in_the_way(statement):
                return False
            change(self.graph, statement)
        self.moment = moment
        return True

    def is_in_the_way(self, statement):
        """Whether a statement cannot be done as long as it is in: it begins with its first read."""
        if len(self.visited) == 0:
            return False
        return statement == QUIET or (statement[0] == "free" and statement[1] in self.found)

    def can_read(self, place):
        """Whether it can read a place, which may be any tuple of strings."""
        if place in self.visited or place not in self.graph:
            return False
        if place[0] != "root" and place[1] not in self.found:
            return False
        return self.graph[place] != GONE

    def tell(self, place):
        """Read a place, and return the read."""
        self.visited.append(place)
        worth = self.graph[place]
        if place[0] != "mark" and worth != "" and worth not in self.found:
            self.found.append(worth)
        return read_of(self.graph, self.found, place)

    def place_of(self, read):
        """The place of which a tuple of integers and strings may tell, or ()."""
        if len(read) == 4 and read[0] == "root":
            return ("root", read[1])
        if (len(read) == 3 and read[0] == "mark") or (len(read) == 5 and read[0] == "field"):
            if is_number(len(self.found), read[1]):
                return (read[0], self.found[read[1]], *read[2:-2])
        return ()


def read_of(graph, found, place):
    """The read of a place, if these cells have come, the one that it tells included."""
    worth = graph[place]
    head = place[:1] if place[0] == "root" else (place[0], found.index(place[1]))
    if place[0] == "mark":
        return (*head, worth)
    tail = (-1, "") if worth == "" else (found.index(worth), graph.label(worth))
    return (*head, place[-1], *tail)


def log_of(graph, script, walk):
    """The log of an entry."""
    visitor = Visitor(graph)
    log = []
    for at, (moment, place) in enumerate(walk):
        if not visitor.can_go(script, moment) or not visitor.can_read(place):
            raise NoRead(at)
        log.append(visitor.tell(place))
    return log


def can_log(graph, thing):
    """Whether a value is a log of a graph."""
    if not isinstance(thing, list):
        return False
    visitor = Visitor(graph)
    for read in thing:
        if not isinstance(read, tuple) or not is_plain(read, 1):
            return False
        place = visitor.place_of(read)
        if not visitor.can_read(place) or visitor.tell(place) != read:
            return False
    return True


def places_of(graph, cell):
    """The list of the places of a cell."""
    return [("field", cell, field) for field in graph.field_at] + [("mark", cell)]


def roots_of(graph):
    """The list of the places of the roots."""
    return [("root", root) for root in graph.roots()]


def behind(graph, visit):
    """The list of the visits behind one: tuples of a log, the cells that have come and the places that were read."""
    log, found, visited = visit
    further = []
    for place in roots_of(graph) + [part for cell in found for part in places_of(graph, cell)]:
        worth = graph[place]
        if place not in visited and worth != GONE:
            fresh = place[0] != "mark" and worth != "" and worth not in found
            come = found + [worth] if fresh else found
            further.append((log + [read_of(graph, come, place)], come, visited + [place]))
    return sorted(further)


def logs(graph):
    """Tell all logs of a graph, each once, those with fewer reads first, then ascending."""
    now = graph.copied()
    line = [([], [], [])]
    while len(line) > 0:
        for log, found, visited in line:
            yield list(log)
        line = [further for visit in line for further in behind(now, visit)]


def last_graph(graph, script):
    """The graph of the last moment of a script, or None if there is a fault ahead of it."""
    now = graph.copied()
    for statement in script:
        if is_fault(now, statement):
            return None
        change(now, statement)
    return now


def sides(graph, script, walk):
    """The list of those of "first" and "last" whose graph of a script has the log of an entry."""
    log = log_of(graph, script, walk)
    last = last_graph(graph, script)
    found = ["first"] if can_log(graph, log) else []
    return found + ["last"] if last is not None and can_log(last, log) else found
