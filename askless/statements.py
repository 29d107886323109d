"""Statements: their forms, their bodies and the names in them."""
from askless.kinds import is_list, is_mark, is_name, is_target

FORMS = {
    "new": ("cell",),
    "mark": ("cell", "mark"),
    "point": ("cell", "field", "target"),
    "root": ("root", "target"),
    "ask": ("quiet",),
    "await": ("quiet",),
    "quiet": (),
    "free": ("cell",),
    "later": ("cell",),
    "lock": ("lock",),
    "unlock": ("lock",),
    "either": ("bodies",),
    "loop": ("body",),
}
CELLS = ("cell", "target")


def fits(kind, thing):
    """Whether a value can stand in a statement as a part of a kind."""
    if kind == "mark":
        return is_mark(thing)
    if kind == "target":
        return is_target(thing)
    if kind == "body":
        return is_list(thing)
    if kind == "bodies":
        return is_list(thing) and len(thing) > 0 and all([is_list(body) for body in thing])
    return is_name(thing)


def has_form(thing):
    """Whether a value is a statement if what stands in its bodies is left aside."""
    if not isinstance(thing, tuple) or len(thing) == 0 or not isinstance(thing[0], str):
        return False
    kinds = FORMS.get(thing[0])
    if kinds is None or len(thing) != len(kinds) + 1:
        return False
    return all([fits(kind, part) for kind, part in zip(kinds, thing[1:])])


def is_statement(thing):
    """Whether a value is a statement, with any names."""
    if not has_form(thing):
        return False
    return all([is_statement(part) for body in bodies(thing) for part in body])


def bodies(statement):
    """The list of the bodies of a statement, as lists."""
    if statement[0] == "either":
        return [list(body) for body in statement[1]]
    if statement[0] == "loop":
        return [list(statement[1])]
    return []


def with_bodies(statement, inner):
    """A statement with other bodies, as many as it has."""
    if statement[0] == "either":
        return ("either", inner)
    if statement[0] == "loop":
        return ("loop", inner[0])
    return statement


def as_lists(statement):
    """A statement with new lists for its bodies, inner ones too."""
    return with_bodies(statement, [[as_lists(part) for part in body] for body in bodies(statement)])


def as_tuples(statement):
    """A statement with tuples for its bodies, inner ones too, so that nothing can change it."""
    inner = [tuple([as_tuples(part) for part in body]) for body in bodies(statement)]
    return with_bodies(statement, tuple(inner))


def pieces(statement):
    """The list of a statement and all inner ones, each ahead of those in it."""
    found = [statement]
    for body in bodies(statement):
        for part in body:
            found.extend(pieces(part))
    return found


def named(statement, kinds):
    """The list of the names of some kinds in a statement itself, in its order."""
    own = FORMS[statement[0]]
    return [part for kind, part in zip(own, statement[1:]) if kind in kinds and part != ""]


def names_in(statement):
    """The ascending list of the different names of cells in a statement, in its bodies too."""
    return sorted({name for piece in pieces(statement) for name in named(piece, CELLS)})


def count(statement):
    """How many statements a statement is, inner ones included."""
    return len(pieces(statement))
