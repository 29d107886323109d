"""A second telling of graphs and scripts, by which the package is checked: all walkers are told one by one."""
import random

from askless.graphs import Graph


class Stand:
    """What stands at one moment of a script, changed in place."""

    def __init__(self, graph):
        self.fields = graph.fields()
        self.root = {r: graph[("root", r)] for r in graph.roots()}
        self.cell = {x: [graph.label(x), graph[("mark", x)], {f: graph[("field", x, f)] for f in self.fields}]
                     for x in graph.cells()}

    def graph(self):
        cells = {x: (mark, tuple(targets[f] for f in self.fields)) for x, (label, mark, targets) in self.cell.items()}
        return Graph(self.fields, self.root, cells, labels={x: self.cell[x][0] for x in self.cell})

    def do(self, statement):
        """Whether a statement is no fault; it is done then."""
        return getattr(self, "do_" + statement[0])(*statement[1:])

    def there(self, y):
        return y == "" or y in self.cell

    def do_quiet(self):
        return True

    def do_new(self, x):
        if x in self.cell:
            return False
        self.cell[x] = [x, 0, {f: "" for f in self.fields}]
        return True

    def do_copy(self, x, y):
        if x in self.cell or y not in self.cell:
            return False
        label, mark, targets = self.cell[y]
        self.cell[x] = [label, mark, dict(targets)]
        return True

    def do_mark(self, x, k):
        if x not in self.cell:
            return False
        self.cell[x][1] = k
        return True

    def do_point(self, x, f, y):
        if x not in self.cell or f not in self.fields or not self.there(y):
            return False
        self.cell[x][2][f] = y
        return True

    def do_root(self, r, y):
        if r not in self.root or not self.there(y):
            return False
        self.root[r] = y
        return True

    def do_free(self, x):
        if x not in self.cell:
            return False
        del self.cell[x]
        for targets in [self.root] + [cell[2] for cell in self.cell.values()]:
            for name in targets:
                if targets[name] == x:
                    targets[name] = "?"
        return True

    def read(self, place):
        """What stands at a place, or None if there is no such place."""
        if place[0] == "root":
            return self.root.get(place[1])
        cell = self.cell.get(place[1])
        if cell is None:
            return None
        return cell[1] if place[0] == "mark" else cell[2].get(place[2])


def met(stand, walkers, now):
    """All (begin, held cells) to which walkers can come now, and the begins of those that read what is gone."""
    found, gone = set(walkers) | {(now, frozenset())}, set()
    line = list(found)
    while line:
        begin, held = line.pop()
        for target in list(stand.root.values()) + [y for x in held for y in stand.cell[x][2].values()]:
            if target == "?":
                gone.add(begin)
            elif target and target not in held and (begin, held | {target}) not in found:
                found.add((begin, held | {target}))
                line.append((begin, held | {target}))
    return found, gone


def told(graph, script):
    """(first fault or None, held of each moment, graphs, outcome, harms), all by the definitions alone."""
    stand = Stand(graph)
    walkers, gone = met(stand, [], 0)
    held, graphs, wrong, harms = [latest(walkers)], [stand.graph()], None, set()
    for at, statement in enumerate(script):
        if not stand.do(statement):
            return at, held, graphs, wrong or ("fault", at), harms
        if statement[0] == "free":
            if statement[1] in held[-1]:
                wrong = wrong or ("held", at)
                harms.add((held[-1][statement[1]] + 1, at, at))
            walkers = {(begin, cells - {statement[1]}) for begin, cells in walkers}
        if statement == ("quiet",):
            walkers = {(begin, cells) for begin, cells in walkers if begin > at}
        ahead = max(gone, default=-1)
        walkers, gone = met(stand, walkers, at + 1)
        if gone:
            wrong = wrong or ("gone", at)
            if max(gone) > ahead:
                harms.add((max(gone) + 1, at, at))
        held.append(latest(walkers))
        graphs.append(stand.graph())
    return None, held, graphs, wrong or ("right",), harms


def latest(walkers):
    cells = sorted({cell for begin, held in walkers for cell in held})
    return {cell: max(begin for begin, held in walkers if cell in held) for cell in cells}


def walks(graph, script, most):
    """All walks of at most so many reads, as tuples."""
    found, line = set(), [((), frozenset())]
    places = [("root", r) for r in graph.roots()]
    names = sorted(set(graph.cells()) | {statement[1] for statement in script if statement[0] in ("new", "copy")})
    places += [("mark", x) for x in names] + [("field", x, f) for x in names for f in graph.fields()]
    while line:
        walk, held = line.pop()
        found.add(walk)
        if len(walk) == most:
            continue
        last = walk[-1][0] if walk else 0
        for moment in range(last, len(script) + 1):
            stand = Stand(graph)
            if not all([stand.do(statement) for statement in script[:moment]]):
                break
            since = script[last:moment] if walk else []
            if any(statement[0] == "free" and statement[1] in held for statement in since):
                break
            if walk and ("quiet",) in script[walk[0][0]:moment]:
                break
            for place in places:
                worth = stand.read(place)
                if worth is None or (place[0] != "root" and place[1] not in held):
                    continue
                more = walk + ((moment, place),)
                if worth == "?":
                    found.add(more)
                else:
                    line.append((more, held | {worth} if isinstance(worth, str) and worth else held))
    return found


def drawn_graph(rng, gone=0):
    fields = [[], ["f"], ["f", "g"]][rng.randint(0, 2)]
    cells = ["w", "x", "y", "z"][:rng.randint(0, 4)]

    def target():
        return "?" if rng.random() < gone else rng.choice(cells + [""])
    labels = {x: rng.choice(["a", "b", x]) for x in cells if rng.random() < 0.3}
    return Graph(fields, {r: target() for r in ["r", "s"][:rng.randint(1, 2)]},
                 {x: (rng.randint(0, 3), tuple(target() for f in fields)) for x in cells}, labels=labels)


def drawn_script(rng, graph, many, words, faults=0.03):
    """A random script with few faults."""
    there, script = set(graph.cells()), []
    while len(script) < many:
        word, names = rng.choice(words), ["w", "x", "y", "z"]
        fault = rng.random() < faults
        cells = names if fault else sorted(there)
        new = names if fault else sorted(set(names) - there)
        fields = graph.fields() + ["h"] * fault
        x, y = rng.choice(cells or ["q"]), rng.choice(cells + [""])
        if not cells and word in ("mark", "point", "free", "copy") or not new and word in ("new", "copy"):
            word = "root"
        if not fields and word == "point":
            word = "root"
        statement = {"new": lambda: ("new", rng.choice(new)), "copy": lambda: ("copy", rng.choice(new), x),
                     "mark": lambda: ("mark", x, rng.randint(0, 3)), "point": lambda: ("point", x, rng.choice(fields), y),
                     "root": lambda: ("root", rng.choice(graph.roots() + ["q"] * fault), y),
                     "free": lambda: ("free", x), "quiet": lambda: ("quiet",)}[word]()
        script.append(statement)
        if word in ("new", "copy"):
            there.add(statement[1])
        elif word == "free":
            there.discard(x)
    return script


def parted_script(rng, graph, many):
    """A random script without quiets that leads away from cells and frees them some time later."""
    stand, script, due = Stand(graph), [], []
    while len(script) < many:
        cells = sorted(set(stand.cell) - set(due))
        free = sorted({"w", "x", "y", "z"} - set(stand.cell))
        kind, part = rng.random(), []
        if kind < 0.3 and cells:
            x = rng.choice(cells)
            due.append(x)
            part = [("root", r, "") for r in stand.root if stand.root[r] == x]
            part += [("point", y, f, "") for y in stand.cell if y != x for f in stand.fields if stand.cell[y][2][f] == x]
        elif kind < 0.5 and due:
            part = [("free", due.pop(rng.randrange(len(due))))]
        elif kind < 0.65 and free:
            part = [("new", rng.choice(free))]
        elif kind < 0.85:
            part = [("root", rng.choice(sorted(stand.root)), rng.choice(cells + [""]))]
        elif cells and stand.fields:
            part = [("point", rng.choice(cells), rng.choice(stand.fields), rng.choice(cells + [""]))]
        for statement in part:
            stand.do(statement)
            script.append(statement)
    return script


def many_cases(many, words=("new", "copy", "mark", "point", "root", "root", "free", "quiet"), most=9):
    """(graph, script) for random graphs and scripts."""
    for seed in range(many):
        rng = random.Random(seed)
        graph = drawn_graph(rng, 0.2 if seed % 6 == 0 else 0)
        yield graph, drawn_script(rng, graph, rng.randint(0, most), words)
