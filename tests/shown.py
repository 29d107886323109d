"""A second telling of changes, by which the package is checked: all walks and all ways, one by one."""
import itertools
import random

from askless.graphs import Graph
from tests.scripted import Stand, walks


def parts_of_graph(graph):
    """What a graph is made of."""
    cells = {x: [graph[("mark", x)], [graph[("field", x, f)] for f in graph.fields()]] for x in graph.cells()}
    return graph.fields(), {r: graph[("root", r)] for r in graph.roots()}, cells


def made(fields, roots, cells):
    return Graph(fields, roots, {x: (mark, tuple(targets)) for x, (mark, targets) in cells.items()})


def changed_graph(rng, graph, many):
    """The graph with some things put elsewhere, perhaps with a cell more or less."""
    fields, roots, cells = parts_of_graph(graph)
    for turn in range(many):
        kind, names = rng.random(), sorted(cells)
        if kind < 0.15 and "z" not in cells:
            cells["z"] = [rng.randint(0, 3), [rng.choice(names + [""]) for f in fields]]
            names.append("z")
            roots[rng.choice(sorted(roots))] = "z" if rng.random() < 0.3 else rng.choice(names)
            if fields and names[:-1]:
                cells[rng.choice(names[:-1])][1][rng.randrange(len(fields))] = "z"
        elif kind < 0.25 and names:
            lost = rng.choice(names)
            del cells[lost]
            left = sorted(cells) + [""]
            roots = {r: rng.choice(left) if target == lost else target for r, target in roots.items()}
            for part in cells.values():
                part[1] = [rng.choice(left) if target == lost else target for target in part[1]]
        elif kind < 0.55 and names:
            cells[rng.choice(names)][0] = rng.randint(0, 3)
        elif kind < 0.95 and names and fields:
            cells[rng.choice(names)][1][rng.randrange(len(fields))] = rng.choice(names + [""])
        else:
            roots[rng.choice(sorted(roots))] = rng.choice(names + [""])
    return made(fields, roots, cells)


def drawn_pair(seed):
    """Two plain graphs with the same fields and roots, most of them with one place or some through which all goes."""
    rng = random.Random(seed)
    fields = [[], ["f"], ["f"], ["f", "g"]][rng.randint(0, 3)]
    names = ["v", "w", "x", "y"][:rng.randint(1, 4 if len(fields) < 2 else 3)]
    cells = {x: [rng.randint(0, 1), [rng.choice(names + [""]) for f in fields]] for x in names}
    if fields and rng.random() < 0.7:
        for x, y in zip(names, names[1:]):
            cells[x][1][rng.randrange(len(fields))] = y
    # Roots can have the names of cells and fields, too.
    tops = rng.choice([["r", "s"], ["r", "s"], ["w", "x"], ["v", "f"]])[:rng.choice([1, 1, 2])]
    roots = {r: names[0] if rng.random() < 0.8 else rng.choice(names + [""]) for r in tops}
    one = made(fields, roots, cells)
    return one, changed_graph(rng, one, rng.choice([0, 1, 1, 2, 2, 3]))


def pairs(many):
    return [drawn_pair(seed) for seed in range(many)]


def places_below(graph, cell):
    return [("field", cell, f) for f in graph.fields()] + [("mark", cell)]


def reached_from(graph, cells, barred=()):
    """The cells to which some lead, these included, by fields other than a place."""
    found = {x for x in cells if x in graph.cells()}
    while True:
        more = {graph[("field", x, f)] for x in found for f in graph.fields() if ("field", x, f) != barred}
        more = (more & set(graph.cells())) - found
        if not more:
            return found
        found |= more


def all_changes(one, other):
    tops = [[graph[("root", r)] for r in graph.roots()] for graph in (one, other)]
    both = reached_from(one, tops[0]) & reached_from(other, tops[1])
    places = [("root", r) for r in one.roots()] + [place for x in both for place in places_below(one, x)]
    return sorted(place for place in places if one[place] != other[place])


def all_ways(one, other):
    """All ways, each a tuple."""
    ends, found = all_changes(one, other), []
    line = [(("root", r),) for r in one.roots()]
    while line:
        way = line.pop()
        if way[-1] in ends:
            found.append(way)
        cell = one[way[-1]]
        if cell in one.cells():
            line += [way + (place,) for place in places_below(one, cell) if place not in way]
    return found


def log_along(graph, script, walk):
    """The log of an entry, by the definitions, with what stands at each moment."""
    come, log = [], []
    for moment, place in walk:
        stand = Stand(graph)
        for statement in script[:moment]:
            stand.do(statement)
        worth = stand.read(place)
        head = place[1:] if place[0] == "root" else (come.index(place[1]),) + place[2:]
        if place[0] == "mark":
            log.append(("mark", *head, worth))
            continue
        if worth and worth not in come:
            come.append(worth)
        log.append((place[0], *head, come.index(worth) if worth else -1, stand.cell[worth][0] if worth else ""))
    return log


def all_entries(graph, script, most):
    """All entries of at most so many reads, as tuples."""
    found = []
    for walk in walks(graph, script, most):
        places = [place for moment, place in walk]
        if len(set(places)) < len(places):
            continue
        stand = Stand(graph)
        for statement in script[:walk[-1][0] if walk else 0]:
            stand.do(statement)
        if not walk or stand.read(walk[-1][1]) != "?":
            found.append(walk)
    return found


def all_logs(graph, most=8):
    return sorted((log_along(graph, [], walk) for walk in all_entries(graph, [], most)), key=lambda log: (len(log), log))


def pairings(one, other):
    """Whether the cells that two graphs reach pair off one to one, with all else equal."""
    ones, others = one.reached(), other.reached()
    if len(ones) != len(others):
        return False
    for order in itertools.permutations(others):
        pair = dict(zip(ones, order))
        pair.update({"": "", "?": "?"})
        same = all(pair[one[("root", r)]] == other[("root", r)] for r in one.roots())
        for x in ones if same else []:
            same = same and one.label(x) == other.label(pair[x]) and one[("mark", x)] == other[("mark", pair[x])]
            same = same and all(pair[one[("field", x, f)]] == other[("field", pair[x], f)] for f in one.fields())
        if same:
            return True
    return False
