"""Places: where statements stand in a program, and programs with other statements there."""
from askless.errors import NoPlace
from askless.kinds import is_integer, is_number
from askless.statements import as_lists, bodies, with_bodies


def all_places(program):
    """The ascending list of all places of a program, the ends of the writers included."""
    return [(writer, address) for writer, spots in enumerate(program.spots) for address in spots]


def statement_at(program, place):
    """The statement at a place, with lists for bodies, or None at an end."""
    writer, address = place
    statement = program.spots[writer][address][0]
    return None if statement is None else as_lists(statement)


def after(program, place):
    """The place to which the statement at a place leads when it is done."""
    writer, address = place
    return (writer, program.spots[writer][address][1])


def entered(program, place, b):
    """The place to which one comes by entering the body with the index b at a place."""
    writer, address = place
    return (writer, program.spots[writer][address][2][b])


def is_place(program, thing):
    """Whether a value is a place of the program."""
    if not isinstance(thing, tuple) or len(thing) != 2:
        return False
    writer, address = thing
    if not is_number(len(program), writer) or not isinstance(address, tuple):
        return False
    return all([is_integer(part) for part in address]) and address in program.spots[writer]


def spliced(body, address, many, statements):
    """A body, a list, with statements in the place of so many that stand from an address on."""
    index = address[0]
    if len(address) == 1:
        return body[:index] + statements + body[index + many:]
    inner = bodies(body[index])
    inner[address[1]] = spliced(inner[address[1]], address[2:], many, statements)
    return body[:index] + [with_bodies(body[index], inner)] + body[index + 1:]


def with_spliced(program, place, many, statements):
    """The program with statements in the place of so many that stand from a place on."""
    writer, address = place
    return program.with_body(writer, spliced(program.body(writer), address, many, statements))


def put_in(program, place, statement):
    """The program with a further statement ahead of the one at a place, or at the end."""
    if not is_place(program, place):
        raise NoPlace(place)
    return with_spliced(program, place, 0, [statement])


def put_behind(program, place, b, statement):
    """The program with a further statement behind the last one of an inner body."""
    if not is_place(program, place):
        raise NoPlace(place)
    found = statement_at(program, place)
    inner = [] if found is None else bodies(found)
    if not is_number(len(inner), b):
        raise NoPlace(place)
    writer, address = place
    return with_spliced(program, (writer, address + (b, len(inner[b]))), 0, [statement])


def left_out(program, place):
    """The program without the statement at a place."""
    if not is_place(program, place) or statement_at(program, place) is None:
        raise NoPlace(place)
    return with_spliced(program, place, 1, [])


def put_instead(program, place, statement):
    """The program with another statement, or an equal one, in the place of the one at a place."""
    if not is_place(program, place) or statement_at(program, place) is None:
        raise NoPlace(place)
    return with_spliced(program, place, 1, [statement])
