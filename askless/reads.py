"""Reads and logs: what one walker has read from its begin on."""
from askless.kinds import is_integer, is_mark, is_name

READ_FORMS = {
    "root": ("name", "told"),
    "field": ("number", "name", "told"),
    "mark": ("number", "mark"),
}
NONE = -1


def fits_read(kind, thing):
    """Whether a value can stand in a read as a part of a kind."""
    if kind == "name":
        return is_name(thing)
    if kind == "mark":
        return is_mark(thing)
    return is_integer(thing) and thing >= (NONE if kind == "told" else 0)


def has_read_form(thing, free):
    """Whether a value has a form of a read; if free, each part but the first one may be None."""
    if not isinstance(thing, tuple) or len(thing) == 0 or not isinstance(thing[0], str):
        return False
    kinds = READ_FORMS.get(thing[0])
    if kinds is None or len(thing) != len(kinds) + 1:
        return False
    return all([(free and part is None) or fits_read(kind, part) for kind, part in zip(kinds, thing[1:])])


def is_read(thing):
    """Whether a value is a read, of whatever log."""
    return has_read_form(thing, False)


def is_log(thing):
    """Whether a value is a list of reads in which cells have their numbers as they come."""
    if not isinstance(thing, list) or not all([is_read(read) for read in thing]):
        return False
    many = 0
    for read in thing:
        if read[0] != "root" and read[1] >= many:
            return False
        if read[0] != "mark" and read[-1] > many:
            return False
        many = come_behind(many, read)
    return True


def come_behind(many, read):
    """How many cells have come behind a read, ahead of which so many had."""
    return many + 1 if read[0] != "mark" and read[-1] == many else many


def come(log):
    """How many cells have come in a log."""
    return max([read[-1] + 1 for read in log if read[0] != "mark"], default=0)


def is_less(one, other):
    """Whether a log has fewer reads than another one, or as many and is less in Python's order."""
    return (len(one), one) < (len(other), other)


def place_read(read, names):
    """The place that a read is of, if the cells that have come have these names."""
    if read[0] == "root":
        return ("root", read[1])
    return (read[0], names[read[1]], *read[2:-1])


def step_of(read):
    """The step by which the walker with the number 0 does a read."""
    return (read[0], 0, *read[1:-1])


def told_reads(log, names):
    """The list of the tuples (place, worth) of what a log tells, if the cells that came have these names."""
    found = []
    for read in log:
        if read[0] == "mark":
            worth = read[-1]
        else:
            worth = "" if read[-1] == NONE else names[read[-1]]
        found.append((place_read(read, names), worth))
    return found
