"""Programs: writers that change cells which point to one another."""
from askless.errors import BadStatement, NoWriter, Wrong
from askless.kinds import is_list, is_name, is_number
from askless.statements import FORMS, as_lists, as_tuples, bodies, has_form, named

MOST_CELLS = 6
MOST_ROOTS = 2
MOST_FIELDS = 2
MOST_WRITERS = 3
CROOKED = ("either", "loop", "lock", "unlock", "later")


def are_names(thing, least, most):
    """Whether a value is a list or a tuple of different names, from least to most of them."""
    if not is_list(thing) or not least <= len(thing) <= most:
        return False
    return all([is_name(name) for name in thing]) and len(set(thing)) == len(thing)


def are_writers(thing):
    """Whether a value is a list or a tuple of one to three lists or tuples."""
    if not is_list(thing) or not 1 <= len(thing) <= MOST_WRITERS:
        return False
    return all([is_list(body) for body in thing])


def numbered(names):
    """The dict from the different names of a list, ascending, to their numbers."""
    return {name: at for at, name in enumerate(sorted(set(names)))}


def names_known(statement, known):
    """Whether a statement itself has only known names, of those kinds for which known tells them."""
    own = FORMS[statement[0]]
    parts = [(known[kind], part) for kind, part in zip(own, statement[1:]) if kind in known]
    return all([part == "" or part in names for names, part in parts])


def bad_address(known, body, head):
    """The least address in a body of what is no statement with known names, or None."""
    for index, item in enumerate(body):
        here = head + (index,)
        if not has_form(item) or not names_known(item, known):
            return here
        for b, inner in enumerate(bodies(item)):
            bad = bad_address(known, inner, here + (b,))
            if bad is not None:
                return bad
    return None


def spots_of(body, head, end):
    """The list of the tuples (address, spot) of all statements in a body, ascending.

    A spot is a tuple of the statement, the address to which it leads when it is done, and the
    list of the addresses to which its bodies are entered. What comes behind the body is end.
    """
    spots = []
    for index, statement in enumerate(body):
        here = head + (index,)
        onward = head + (index + 1,) if index + 1 < len(body) else end
        # A body that is done leads back to its loop, but past its either.
        behind = here if statement[0] == "loop" else onward
        inner = bodies(statement)
        starts = [here + (b, 0) if part else behind for b, part in enumerate(inner)]
        spots.append((here, (statement, onward, starts)))
        for b, part in enumerate(inner):
            spots.extend(spots_of(part, here + (b,), behind))
    return spots


def spots_by_address(body):
    """The dict from all addresses of a writer, ascending, its end included, to their spots."""
    end = (len(body),)
    spots = dict(spots_of(body, (), end))
    spots[end] = (None, end, [])
    return spots


class Program:
    """Writers, one to three, over cells, fields and roots. It never changes."""

    def __init__(self, cells, roots, writers, *, fields=()):
        if not are_names(cells, 1, MOST_CELLS):
            raise Wrong(0)
        if not are_names(roots, 1, MOST_ROOTS):
            raise Wrong(1)
        if not are_writers(writers):
            raise Wrong(2)
        if not are_names(fields, 0, MOST_FIELDS):
            raise Wrong(3)
        self.cell_at = numbered(cells)
        self.root_at = numbered(roots)
        self.field_at = numbered(fields)
        known = {"cell": self.cell_at, "target": self.cell_at, "field": self.field_at, "root": self.root_at}
        for writer, body in enumerate(writers):
            bad = bad_address(known, body, ())
            if bad is not None:
                raise BadStatement(writer, bad)
        self.scripts = tuple([tuple([as_tuples(part) for part in script]) for script in writers])
        self.spots = [spots_by_address(script) for script in self.scripts]
        self.whole = (self.cells(), self.roots(), self.fields(), self.scripts)
        done = [spot[0] for spots in self.spots for spot in spots.values() if spot[0] is not None]
        self.quiet_names = sorted({name for part in done for name in named(part, ("quiet",))})
        self.lock_at = numbered([name for part in done for name in named(part, ("lock",))])
        crooked = any([part[0] in CROOKED for part in done])
        self.straight = len(self.scripts) == 1 and not crooked
        self.readable = (tuple(range(len(self.root_at))), tuple(range(len(self.field_at))))

    def __eq__(self, other):
        return isinstance(other, Program) and self.whole == other.whole

    def __len__(self):
        return len(self.scripts)

    @property
    def is_straight(self):
        """Whether it has one writer, and no either, loop, lock, unlock, later."""
        return self.straight

    def cells(self):
        """The ascending list of the names of the cells."""
        return list(self.cell_at)

    def roots(self):
        """The ascending list of the names of the roots."""
        return list(self.root_at)

    def fields(self):
        """The ascending list of the names of the fields."""
        return list(self.field_at)

    def quiets(self):
        """The ascending list of the names of quiets that stand in statements."""
        return list(self.quiet_names)

    def locks(self):
        """The ascending list of the names of locks that stand in statements."""
        return list(self.lock_at)

    def body(self, writer):
        """The body of the writer with this number, with lists for bodies."""
        if not is_number(len(self.scripts), writer):
            raise NoWriter(writer)
        return [as_lists(part) for part in self.scripts[writer]]

    def with_body(self, writer, body):
        """The program in which a writer has another body."""
        if not is_number(len(self.scripts), writer):
            raise NoWriter(writer)
        writers = list(self.scripts)
        writers[writer] = body
        return Program(self.cells(), self.roots(), writers, fields=self.fields())

    def narrowed(self, roots, fields):
        """The same program, for walkers who read some of the roots and fields alone."""
        program = Program(self.cells(), self.roots(), self.scripts, fields=self.fields())
        root_numbers = tuple([self.root_at[root] for root in roots])
        program.readable = (root_numbers, tuple([self.field_at[field] for field in fields]))
        return program
