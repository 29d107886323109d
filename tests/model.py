"""A second telling of the document's definitions, by which the package is checked.

It shares no code with the package. Walkers are independent of one another, so the set of all that
one walker can have done by a moment tells what any number of them can have done.
"""
import random


def flat(body):
    """All statements of a body, inner ones too."""
    for statement in body:
        yield statement
        for inner in inner_bodies(statement):
            yield from flat(inner)


def inner_bodies(statement):
    if statement[0] == "either":
        return statement[1]
    if statement[0] == "loop":
        return [statement[1]]
    return []


def list_at(body, address):
    """The list of statements in which an address stands."""
    while len(address) > 1:
        body = inner_bodies(body[address[0]])[address[1]]
        address = address[2:]
    return body


def statement_of(body, address):
    around = list_at(body, address)
    return around[address[-1]] if address[-1] < len(around) else None


def next_address(body, address):
    if address[-1] + 1 < len(list_at(body, address)) or len(address) == 1:
        return address[:-1] + (address[-1] + 1,)
    outer = address[:-2]
    if statement_of(body, outer)[0] == "loop":
        return outer
    return next_address(body, outer)


def inner_address(body, address, b):
    statement = statement_of(body, address)
    if inner_bodies(statement)[b]:
        return address + (b, 0)
    return address if statement[0] == "loop" else next_address(body, address)


class Wrongly(Exception):
    """A step is a fault, for a name."""


class World:
    """What stands at one moment, changed in place; every asking and every cell made is a new one."""

    def __init__(self, cells, roots, fields, bodies):
        self.cell_names, self.root_names, self.field_names = sorted(cells), sorted(roots), sorted(fields)
        self.bodies = bodies
        self.at = [(0,) for body in bodies]
        self.things = {}
        self.root = {root: "" for root in roots}
        self.lock = {part[1]: None for body in bodies for part in flat(body) if part[0] == "lock" or part[0] == "unlock"}
        self.asked = []
        self.under_way = []
        self.clock = 0
        # What walkers read, beside marks.
        self.readable = (self.root_names, self.field_names)

    def copied(self):
        other = World(self.cell_names, self.root_names, self.field_names, self.bodies)
        other.readable = self.readable
        other.at = list(self.at)
        other.things = {cell: [thing[0], dict(thing[1])] for cell, thing in self.things.items()}
        other.root, other.lock = dict(self.root), dict(self.lock)
        other.asked, other.under_way, other.clock = list(self.asked), list(self.under_way), self.clock
        return other

    def steps(self):
        """All steps that no lock bars, walkers left aside."""
        found = [("begin", cell) for cell in self.under_way]
        found += [("end", name[1:]) for name, asking in self.asked if name[0] == "~"]
        for i, body in enumerate(self.bodies):
            statement = statement_of(body, self.at[i])
            if statement is None:
                continue
            if statement[0] == "either":
                found += [("writer", i, b) for b in range(len(statement[1]))]
            elif statement[0] == "loop":
                found += [("writer", i, 0), ("writer", i, 1)]
            elif statement[0] != "lock" or self.lock[statement[1]] in (None, i):
                found.append(("writer", i))
        return sorted(found)

    def awaits(self, step):
        """The asking that must be over for a step, or None."""
        if step[0] == "end":
            name = "~" + step[1]
        elif step[0] == "writer":
            statement = statement_of(self.bodies[step[1]], self.at[step[1]])
            if statement[0] not in ("await", "quiet"):
                return None
            name = statement[1] if statement[0] == "await" else "!%d" % step[1]
        else:
            return None
        return dict(self.asked).get(name)

    def frees(self, step):
        """The cell that a step frees, or None."""
        if step[0] == "end":
            return step[1]
        if step[0] == "writer":
            statement = statement_of(self.bodies[step[1]], self.at[step[1]])
            if statement[0] == "free":
                return statement[1]
        return None

    def ask(self, name):
        self.asked = [pair for pair in self.asked if pair[0] != name]
        self.clock += 1
        self.asked.append((name, self.clock))

    def end(self, name):
        self.asked = [pair for pair in self.asked if pair[0] != name]

    def free(self, cell):
        del self.things[cell]
        for thing in self.things.values():
            for field in thing[1]:
                if thing[1][field] == cell:
                    thing[1][field] = "?"
        for root in self.root:
            if self.root[root] == cell:
                self.root[root] = "?"

    def do(self, step):
        """Do a step, or raise Wrongly with the name for which it is a fault."""
        if step[0] == "begin":
            self.under_way.remove(step[1])
            self.ask("~" + step[1])
        elif step[0] == "end":
            self.end("~" + step[1])
            self.free(step[1])
        else:
            self.do_writer(*step[1:])

    def do_writer(self, i, choice=None):
        body, here = self.bodies[i], self.at[i]
        statement = statement_of(body, here)
        if statement[0] == "either":
            self.at[i] = inner_address(body, here, choice)
        elif statement[0] == "loop" and choice == 1:
            self.at[i] = inner_address(body, here, 0)
        elif statement[0] == "quiet" and "!%d" % i not in dict(self.asked):
            self.ask("!%d" % i)
        else:
            getattr(self, "do_" + statement[0])(i, *statement[1:])
            self.at[i] = next_address(body, here)

    def need(self, *cells):
        for cell in cells:
            if cell != "" and cell not in self.things:
                raise Wrongly(cell)

    def need_home(self, cell):
        self.need(cell)
        if cell in self.under_way or "~" + cell in dict(self.asked):
            raise Wrongly(cell)

    def do_loop(self, i, body):
        pass

    def do_quiet(self, i):
        self.end("!%d" % i)

    def do_new(self, i, x):
        if x in self.things:
            raise Wrongly(x)
        self.things[x] = [0, {field: "" for field in self.field_names}]

    def do_mark(self, i, x, k):
        self.need(x)
        self.things[x][0] = k

    def do_point(self, i, x, f, y):
        self.need(x, y)
        self.things[x][1][f] = y

    def do_root(self, i, r, y):
        self.need(y)
        self.root[r] = y

    def do_ask(self, i, q):
        self.ask(q)

    def do_await(self, i, q):
        if q not in dict(self.asked):
            raise Wrongly(q)
        self.end(q)

    def do_free(self, i, x):
        self.need_home(x)
        self.free(x)

    def do_later(self, i, x):
        self.need_home(x)
        self.under_way = sorted(self.under_way + [x])

    def do_lock(self, i, q):
        if self.lock[q] == i:
            raise Wrongly(q)
        self.lock[q] = i

    def do_unlock(self, i, q):
        if self.lock[q] != i:
            raise Wrongly(q)
        self.lock[q] = None


def closed_walkers(world, walkers):
    """All (begin, held cells) that one walker can come to from some, or by entering now.

    A walker's begin is told by the askings that lie ahead of it. Also whether one can read what is gone.
    """
    line = list(walkers) + [(world.clock, frozenset())]
    found, gone = set(line), set()
    while line:
        begin, held = line.pop()
        targets = [(root, world.root[root]) for root in world.readable[0]]
        targets += [(cell, world.things[cell][1][field]) for cell in held for field in world.readable[1]]
        for source, target in targets:
            if target == "?":
                gone.add(source)
            elif target != "" and target not in held:
                more = (begin, held | {target})
                if more not in found:
                    found.add(more)
                    line.append(more)
    return found, gone


def row_of(world, walkers):
    """The row [30] by its definition."""
    things = []
    ranks = []
    for cell in world.cell_names:
        thing = world.things.get(cell)
        things.append(() if thing is None else (thing[0], tuple(thing[1][f] for f in world.field_names)))
        begins = [begin for begin, held in walkers if cell in held]
        ranks.append(sum(asking <= max(begins) for name, asking in world.asked) if begins else -1)
    locks = tuple(-1 if world.lock[q] is None else world.lock[q] for q in sorted(world.lock))
    return (tuple(world.at), tuple(things), tuple(world.root[r] for r in world.root_names), locks,
            tuple(name for name, asking in world.asked), tuple(ranks), tuple(world.under_way))


def tried(world, walkers, step):
    """(word, name, world, walkers) of a step, as [2] and [30] tell of it."""
    asking, cell = world.awaits(step), world.frees(step)
    other = world.copied()
    if asking is not None:
        # Those that had begun ahead of this asking have left.
        walkers = closed_walkers(world, {w for w in walkers if w[0] >= asking})[0]
    try:
        other.do(step)
    except Wrongly as wrong:
        return "fault", wrong.args[0], None, None
    if cell is not None and any(cell in held for begin, held in walkers):
        return "held", cell, None, None
    walkers, gone = closed_walkers(other, walkers)
    if gone:
        return "gone", min(gone), None, None
    return "", "", other, walkers


def random_body(rng, names, many, depth):
    """A random body of at most so many statements."""
    body = []
    while many > 0:
        many -= 1
        kind = rng.random()
        if depth > 0 and kind < 0.12:
            inner = rng.randint(0, min(3, many))
            many -= inner
            if rng.random() < 0.5:
                body.append(("loop", random_body(rng, names, inner, depth - 1)))
            else:
                body.append(("either", [random_body(rng, names, inner, depth - 1), random_body(rng, names, 1, 0)]))
        else:
            body.append(random_statement(rng, names))
    return body


def random_statement(rng, names):
    cells, roots, fields, quiets, locks = names
    words = ["new"] * 4 + ["mark", "root", "root", "root", "ask", "await", "quiet", "quiet", "free", "free", "later"]
    words += ["point"] * (3 if fields else 0) + ["lock", "unlock"] * (1 if locks else 0)
    word = rng.choice(words)
    x, y = rng.choice(cells), rng.choice(cells + [""])
    return {"new": (word, x), "mark": (word, x, rng.randint(0, 3)), "root": (word, rng.choice(roots), y),
            "point": (word, x, rng.choice(fields or ["f"]), y), "ask": (word, rng.choice(quiets)),
            "await": (word, rng.choice(quiets)), "quiet": (word,), "free": (word, x), "later": (word, x),
            "lock": (word, rng.choice(locks or ["l"])), "unlock": (word, rng.choice(locks or ["l"]))}[word]


def random_parts(seed):
    """(cells, roots, bodies, fields) of a random program."""
    rng = random.Random(seed)
    cells = ["x", "y", "z"][:rng.randint(1, 3)]
    roots = ["r", "s"][:rng.randint(1, 2)]
    fields = [[], ["f"], ["f", "g"]][rng.randint(0, 2)]
    names = (cells, roots, fields, ["p", "q"], rng.choice([[], ["k", "l"]]))
    writers = rng.randint(1, 3)
    # Cells are made first, so that fewer steps are faults.
    bodies = [random_body(rng, names, rng.randint(1, 8 // writers + 2), 2) for i in range(writers)]
    bodies[0] = [("new", cell) for cell in cells if rng.random() < 0.7] + bodies[0]
    return cells, roots, bodies, fields


def mild_statement(rng, there, roots, fields):
    """A random statement that is no fault while these cells are there."""
    found = [("quiet",)]
    found += [("mark", x, rng.randint(0, 3)) for x in sorted(there)]
    found += [("point", x, f, y) for x in sorted(there) for f in fields for y in sorted(there) + ["", ""]]
    found += [("root", r, y) for r in roots for y in sorted(there) + [""] * (len(there) + 1)]
    return rng.choice(found)


def retired(rng, x, there, roots, fields):
    """Statements that take x away, mostly such that no walker can meet it."""
    care = rng.choice([0.97, 0.85, 0.6])
    body = [("root", r, "") for r in roots if rng.random() < care]
    body += [("point", z, f, "") for z in sorted(there - {x}) for f in fields if rng.random() < care]
    rng.shuffle(body)
    kind = rng.random()
    if kind < 0.55:
        return body + [("quiet",), ("free", x)]
    if kind < 0.75:
        return body + [("ask", "q"), mild_statement(rng, there - {x}, roots, fields), ("await", "q"), ("free", x)]
    return body + [("free", x) if kind < 0.8 else ("later", x)]


def mild_body(rng, cells, roots, fields, many):
    """A random body over cells of its own, few steps of which are faults."""
    body, there, spent = [], set(), set()
    while len(body) < many:
        lacking = sorted(set(cells) - there - spent)
        kind = rng.random()
        if kind < 0.3 and lacking:
            x = rng.choice(lacking)
            body.append(("new", x))
            there.add(x)
        elif kind < 0.5 and there:
            x = rng.choice(sorted(there))
            body += retired(rng, x, there, roots, fields)
            there.discard(x)
            if body[-1][0] == "later":
                spent.add(x)
        elif kind < 0.6 and lacking:
            x = rng.choice(lacking)
            inner = [("new", x), mild_statement(rng, there | {x}, roots, fields)]
            body.append(("loop", inner + retired(rng, x, there | {x}, roots, fields)))
        elif kind < 0.7:
            some = [[mild_statement(rng, there, roots, fields) for i in range(rng.randint(0, 2))] for j in range(2)]
            body.append(("either", some[:rng.randint(1, 2)]))
        elif kind < 0.78:
            body += [("lock", "l"), mild_statement(rng, there, roots, fields), ("unlock", "l")]
        else:
            body.append(mild_statement(rng, there, roots, fields))
    return body


def mild_parts(seed):
    """(cells, roots, bodies, fields) of a random program that is often right."""
    rng = random.Random(seed)
    fields = [[], ["f"], ["f", "g"]][rng.randint(0, 2)]
    roots = ["r", "s"][:rng.randint(1, 2)]
    writers = rng.choice([1, 1, 2, 2, 3])
    cells = ["u", "v", "w", "x"][:max(writers, rng.randint(1, 4))]
    bodies = [mild_body(rng, cells[i::writers], roots, fields, rng.randint(1, 7 // writers + 1)) for i in range(writers)]
    return cells, roots, bodies, fields


class Visited:
    """A World with walkers, each told by a dict, as [40] has them."""

    def __init__(self, world):
        self.world = world
        self.walkers = []

    def copied(self):
        other = Visited(self.world.copied())
        other.walkers = [dict(walker, cells=list(walker["cells"]), log=list(walker["log"])) for walker in self.walkers]
        return other

    def must_wait(self, step):
        asking = self.world.awaits(step)
        return asking is not None and any(walker["in"] and walker["begin"] < asking for walker in self.walkers)

    def steps(self):
        return [step for step in self.world.steps() if not self.must_wait(step)]

    def reads(self, w):
        cells, fields = range(len(self.walkers[w]["cells"])), self.world.field_names
        found = [("root", w, root) for root in self.world.root_names] + [("mark", w, k) for k in cells]
        return sorted(found + [("field", w, k, f) for k in cells for f in fields])

    def do(self, step):
        """("done", what the step returns), ("none",) if it cannot be done, or how it is wrong."""
        if step[0] in ("writer", "begin", "end"):
            return self.do_world(step) if step in self.steps() else ("none",)
        if step[0] == "enter":
            self.walkers.append({"in": True, "begin": self.world.clock, "cells": [], "log": []})
            return ("done", None)
        if step[1] >= len(self.walkers) or not self.walkers[step[1]]["in"]:
            return ("none",)
        if step[0] == "leave":
            self.walkers[step[1]]["in"] = False
            return ("done", None)
        return self.do_read(step) if step in self.reads(step[1]) else ("none",)

    def do_world(self, step):
        here = self.world.at[step[1]] if step[0] == "writer" else None
        cell, other = self.world.frees(step), self.world.copied()
        try:
            other.do(step)
        except Wrongly as wrong:
            return ("fault", step[1], here, wrong.args[0])
        if any(walker["in"] and cell in walker["cells"] for walker in self.walkers):
            return ("freed", cell)
        self.world = other
        return ("done", None)

    def do_read(self, step):
        walker = self.walkers[step[1]]
        if step[0] == "root":
            target = self.world.root[step[2]]
        else:
            mark, targets = self.world.things[walker["cells"][step[2]]]
            if step[0] == "mark":
                walker["log"].append(("mark", step[2], mark))
                return ("done", mark)
            target = targets[step[3]]
        if target == "?":
            return ("gone", step[1])
        if target and target not in walker["cells"]:
            walker["cells"].append(target)
        number = walker["cells"].index(target) if target else -1
        walker["log"].append((step[0],) + step[2:] + (number,))
        return ("done", number)

    def told(self):
        """All that the queries of a Machine tell, but its run."""
        world = self.world
        things = {x: (world.things[x][0], dict(world.things[x][1])) if x in world.things else None for x in world.cell_names}
        return [
            list(world.at), [name for name, asking in world.asked], list(world.under_way), things, dict(world.root),
            dict(world.lock), [w for w, walker in enumerate(self.walkers) if walker["in"]],
            [list(walker["cells"]) for walker in self.walkers], [list(walker["log"]) for walker in self.walkers],
            self.steps(), [self.reads(w) for w, walker in enumerate(self.walkers) if walker["in"]],
        ]


def random_step(rng, visited):
    """A random step that can perhaps be done."""
    world, many = visited.world, len(visited.walkers)
    kind = rng.random()
    if kind < 0.5:
        return rng.choice(world.steps() or [("enter",)])
    if kind < 0.57:
        return ("enter",)
    w = rng.randint(0, many)
    if kind < 0.65:
        return ("leave", w)
    if w < many and kind < 0.95:
        return rng.choice(visited.reads(w))
    cell = rng.choice(world.cell_names + ["zz"])
    return rng.choice([("writer", w), ("writer", w, rng.randint(0, 2)), ("begin", cell), ("end", cell), ("mark", w, 0),
                       ("root", w, "zz"), ("field", w, 0, rng.choice(world.field_names + ["zz"])), ("root", w, "r")])


def rows_told(parts, readable=None, most=1000):
    """(dict from all rows to the fewest steps to them, fewest steps the last of which is wrong or None), or None.

    Walkers read readable alone, roots and fields, if it is told.
    """
    cells, roots, bodies, fields = parts
    world = World(cells, roots, fields, bodies)
    world.readable = readable or world.readable
    walkers = closed_walkers(world, set())[0]
    found, line, fewest = {row_of(world, walkers): 0}, [(world, walkers, 0)], None
    while line:
        further = []
        for world, walkers, cost in line:
            for step in world.steps():
                word, name, other, others = tried(world, walkers, step)
                if word:
                    fewest = cost + 1 if fewest is None else fewest
                elif row_of(other, others) not in found:
                    found[row_of(other, others)] = cost + 1
                    further.append((other, others, cost + 1))
        line = further
        if len(found) > most:
            return None
    return found, fewest
