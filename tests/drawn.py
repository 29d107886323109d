"""Random programs with much to see: writers that never free what can be met, and lists that are changed in place."""
import random

from askless.errors import TooMany
from askless.places import all_places, left_out, statement_at
from askless.programs import Program
from askless.tables import Table
from tests.model import mild_parts


def visible_statement(rng, own, roots, fields):
    """A random statement on cells that are there, most of which walkers can see."""
    kind = rng.random()
    if kind < 0.35 and fields:
        return ("point", rng.choice(own), rng.choice(fields), rng.choice(own + [""]))
    if kind < 0.6:
        return ("mark", rng.choice(own), rng.randint(0, 3))
    return ("root", rng.choice(roots), rng.choice(own + [""])) if kind < 0.95 else ("quiet",)


def visible_body(rng, own, roots, fields, many, depth=1):
    body = []
    while many > 0:
        kind = rng.random()
        inner = rng.randint(1, min(4, many))
        if depth and kind < 0.15:
            body.append(("loop", visible_body(rng, own, roots, fields, inner, 0)))
            many -= inner
        elif depth and kind < 0.3:
            other = visible_body(rng, own, roots, fields, rng.randint(0, 2), 0)
            body.append(("either", [visible_body(rng, own, roots, fields, inner, 0), other]))
            many -= inner
        else:
            body.append(visible_statement(rng, own, roots, fields))
            many -= 1
    return body


def visible(seed, most=9):
    """A program of one to three writers, each with cells of its own, that is right if it frees nothing too soon."""
    rng = random.Random(seed)
    writers = rng.choice([1, 1, 2, 3])
    cells = ["u", "v", "w"][:max(writers, rng.randint(1, 3))]
    roots = ["r", "s"][:rng.randint(1, 2)]
    fields = [[], ["f"], ["f", "g"]][rng.randint(0, 2)]
    bodies = []
    for i in range(writers):
        own = cells[i::writers]
        body = [("new", x) for x in own] + visible_body(rng, own, roots, fields, rng.randint(1, most // writers))
        if rng.random() < 0.5:
            x = rng.choice(own)
            body += [("root", r, "") for r in roots] + [("point", y, f, "") for y in own if y != x for f in fields]
            body += rng.choice([[("quiet",), ("free", x)], [("later", x)], [("quiet",), ("free", x), ("new", x)]])
        bodies.append(body)
    return Program(cells, roots, bodies, fields=fields)


class List:
    """A list of cells that is changed in place, and the statements that did so."""

    def __init__(self, rng, cells, roots):
        self.rng, self.cells, self.roots = rng, cells, roots
        self.order, self.there, self.body = [], set(), []

    def link(self, i):
        """The statement by which the cell with the index i, or none, is led to."""
        target = self.order[i] if i < len(self.order) else ""
        return ("root", "r", target) if i == 0 else ("point", self.order[i - 1], "f", target)

    def put_in(self):
        x = self.rng.choice([x for x in self.cells if x not in self.order])
        if x not in self.there:
            self.body.append(("new", x))
            self.there.add(x)
        i = self.rng.randint(0, len(self.order))
        self.order.insert(i, x)
        both = [("point", x, "f", self.order[i + 1] if i + 1 < len(self.order) else ""), self.link(i)]
        self.body += both if self.rng.random() < 0.8 else both[::-1]

    def take_out(self):
        i = self.rng.randrange(len(self.order))
        x = self.order.pop(i)
        self.body.append(self.link(i))
        if self.rng.random() < 0.6:
            self.body += [("root", r, "") for r in self.roots if r != "r"] + [("quiet",), ("free", x)]
            self.there.discard(x)

    def bend(self):
        i = self.rng.randrange(len(self.order))
        self.body.append(("point", self.order[i], "f", self.rng.choice(sorted(self.there))))
        self.body.append(self.link(i + 1))

    def change(self):
        kind = self.rng.random()
        if kind < 0.4 and len(self.order) < len(self.cells):
            self.put_in()
        elif kind < 0.75 and self.order:
            self.take_out()
        elif kind < 0.85 and self.order:
            self.body.append(("root", self.roots[-1], self.rng.choice(self.order)))
            if self.roots[-1] == "r":
                self.body.append(self.link(0))
        elif kind < 0.95 and self.order:
            self.body.append(("mark", self.rng.choice(self.order), self.rng.randint(0, 2)))
        elif self.order:
            self.bend()

    def go_back(self, order, there):
        """Come back to an earlier order, so that all this can be done in a loop."""
        self.body += [("root", r, "") for r in self.roots] + [("quiet",)]
        self.body += [("free", x) for x in sorted(self.there - there)] + [("new", x) for x in sorted(there - self.there)]
        self.order, self.there = list(order), set(there)
        self.body += [self.link(i) for i in range(len(order), -1, -1)]


def listed(seed):
    """A program of one writer that changes a list in place, perhaps in a loop."""
    rng = random.Random(seed)
    cells, roots = ["x", "y", "z"][:rng.choice([2, 3, 3])], rng.choice([["r"], ["r"], ["r", "s"]])
    chain = List(rng, cells, roots)
    for turn in range(rng.randint(1, 4)):
        chain.change()
    if rng.random() < 0.6:
        ahead, order, there = chain.body, list(chain.order), set(chain.there)
        chain.body = []
        for turn in range(rng.randint(1, 3)):
            chain.change()
        chain.go_back(order, there)
        chain.body = ahead + [("loop", chain.body)]
    for turn in range(rng.randint(0, 3)):
        chain.change()
    return Program(cells, roots, [chain.body], fields=["f"])


def linked(seed):
    """A program of one writer that makes a list and then changes its links at random, perhaps in a loop."""
    rng, cells, roots = random.Random(seed), ["x", "y", "z"], [["r"], ["r", "s"]][seed % 2]
    order = rng.sample(cells, 3)
    body = [("new", x) for x in cells] + [("point", x, "f", y) for x, y in zip(order, order[1:])] + [("root", "r", order[0])]
    more = []
    for turn in range(rng.randint(1, 4)):
        target = rng.choice(cells + [""])
        more.append(rng.choice([("point", rng.choice(cells), "f", target)] * 2 + [("root", rng.choice(roots), target)]))
    return Program(cells, roots, [body + ([("loop", more)] if rng.random() < 0.2 else more)], fields=["f"])


def hasty(seed):
    """Such a program without one or two of the statements by which it takes care."""
    rng, program = random.Random(seed), listed(seed)
    for turn in range(rng.randint(1, 2)):
        words = rng.choice([("quiet",), ("quiet",), ("point", "root")])
        places = [place for place in all_places(program) if (statement_at(program, place) or [""])[0] in words]
        if places:
            program = left_out(program, rng.choice(places))
    return program


def torn(seed):
    """A program that frees a cell to which others may still lead, and then shows these."""
    rng, cells = random.Random(seed), ["x", "y", "z"]
    fields = [["f"], ["f", "g"]][rng.randint(0, 1)]
    body = [("new", x) for x in cells]
    body += [("point", rng.choice(cells), rng.choice(fields), rng.choice(cells)) for i in range(rng.randint(1, 4))]
    body += rng.choice([[], [("root", "r", rng.choice(cells)), ("root", "r", ""), ("quiet",)]])
    freed = rng.choice(cells)
    body.append(("free", freed))
    for i in range(rng.randint(1, 3)):
        left = [x for x in cells if x != freed]
        body.append(rng.choice([("root", "r", rng.choice(left)), ("point", rng.choice(left), rng.choice(fields), rng.choice(left))]))
    return Program(cells, ["r"], [body], fields=fields)


def some_programs(many, most, kinds=(visible, listed)):
    """Random programs with small tables."""
    for seed in range(many):
        for kind in kinds:
            program = kind(seed)
            try:
                Table(program, most=most)
            except TooMany:
                continue
            yield program


def mild(seed):
    parts = mild_parts(seed)
    return Program(*parts[:3], fields=parts[3])


def right_programs(many, most, kinds=(visible, listed)):
    """Random right programs with small tables."""
    return [program for program in some_programs(many, most, kinds) if Table(program, most=most).is_safe]


def parts_of(program):
    """What a World is made of."""
    bodies = [program.body(writer) for writer in range(len(program))]
    return (program.cells(), program.roots(), bodies, program.fields())
