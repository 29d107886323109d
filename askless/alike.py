"""Alike: whether the walkers of two programs have the same logs."""
from askless.errors import NoPlace, NotRight, TooMany
from askless.logs import Logs
from askless.places import all_places, is_place, statement_at, with_spliced
from askless.reads import is_less


def are_alike(one, other, *, most=1000):
    """Whether the walkers of two right programs have the same logs."""
    return Logs(one, most=most) == Logs(other, most=most)


def parting_log(one, other, *, most=1000):
    """The tuple (side, log) with the least log that just one of two programs has, or None."""
    ones = Logs(one, most=most)
    others = Logs(other, most=most)
    first = ones.missing(others)
    second = others.missing(ones)
    if first is None and second is None:
        return None
    if second is None or (first is not None and is_less(first, second)):
        return (0, first)
    return (1, second)


def is_pair(program, place):
    """Whether a value is the place of a statement with a next one in the same body."""
    if not is_place(program, place):
        return False
    writer, address = place
    onward = (writer, address[:-1] + (address[-1] + 1,))
    return is_place(program, onward) and statement_at(program, onward) is not None


def exchanged(program, place):
    """The program in which the statement at a place and the next one are exchanged."""
    if not is_pair(program, place):
        raise NoPlace(place)
    writer, address = place
    onward = (writer, address[:-1] + (address[-1] + 1,))
    pair = [statement_at(program, onward), statement_at(program, place)]
    return with_spliced(program, place, 2, pair)


def has_logs(program, logs_wished, most):
    """Whether a program has a table of at most so many rows, is right, and its walkers have just these logs."""
    try:
        return Logs(program, most=most) == logs_wished
    except (TooMany, NotRight):
        return False


def exchanges(program, *, most=1000):
    """The ascending list of the places at which two statements can be exchanged so that no walker sees it."""
    wished = Logs(program, most=most)
    places = [place for place in all_places(program) if is_pair(program, place)]
    return [place for place in places if has_logs(exchanged(program, place), wished, most)]
