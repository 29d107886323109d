"""Plans: scripts that show a change whole to every walker, by one write."""
from askless.changes import changes
from askless.entries import places_of, roots_of
from askless.errors import Broken, NoSwitch, TooFew
from askless.scenes import Scene, change, is_fault, place_put
from askless.switches import copies, switches

WRITES = ("mark", "point", "root")


def write_at(place, worth):
    """The statement that puts something at a place."""
    if place[0] == "field":
        return ("point", *place[1:], worth)
    return (*place, worth)


def makings(one, other, taken):
    """The list of the statements that make the cells which are to come, and the copies."""
    fresh = [("new", cell) for cell in other.cells() if cell not in one.label_of]
    return fresh + [("copy", taken[cell], cell) for cell in taken]


def named_anew(place, taken):
    """A place of a cell, or that of its copy if there is one."""
    if place[0] == "root":
        return place
    return (place[0], taken.get(place[1], place[1]), *place[2:])


def writes(now, other, taken):
    """The list of the statements by which a graph comes to have all that another one has, copies in their places."""
    found = []
    for place in roots_of(other) + [place for cell in other.cells() for place in places_of(other, cell)]:
        here = named_anew(place, taken)
        worth = taken.get(other[place], other[place])
        if now[here] != worth:
            found.append(write_at(here, worth))
    return found


def last_switch(one, other):
    """The last switch, or () if there are no changes."""
    known = switches(one, other)
    if len(known) > 0:
        return known[-1]
    if len(changes(one, other)) > 0:
        raise NoSwitch(())
    return ()


def parted(statements, switch, seen):
    """The lists of the writes that can be done ahead of the one at the switch, of this one, and of those behind it.

    No root is written but the switch: another one that changes, or leads to a copy, would be a way around it.
    """
    early = []
    shown = []
    late = []
    for statement in statements:
        if place_put(statement) == switch:
            shown.append(statement)
        elif statement[1] in seen:
            # Walkers can hold it until the quiet behind the switch, from which on none of them does.
            late.append(statement)
        else:
            early.append(statement)
    return (early, shown, late)


def plan(one, other, names):
    """The tuple (script, taken): a script that shows the change whole, and the dict from copied cells to copies."""
    switch = last_switch(one, other)
    copied = [] if switch == () else copies(one, other, switch)
    if len(names) < len(copied):
        raise TooFew(len(copied))
    taken = dict(zip(copied, names))
    made = makings(one, other, taken)
    now = one.copied()
    for statement in made:
        change(now, statement)
    early, shown, late = parted(writes(now, other, taken), switch, one.reached())
    freed = [("free", cell) for cell in one.cells() if cell in taken or cell not in other.label_of]
    quiets = [("quiet",)] if len(late) > 0 or len(freed) > 0 else []
    return (made + early + shown + quiets + late + freed, taken)


def is_told(scene, statement):
    """Whether a statement puts something else where a walker can read it."""
    if statement[0] not in WRITES:
        return False
    place = place_put(statement)
    return scene.graph[place] != statement[-1] and (place[0] == "root" or place[1] in scene.begins)


def told_writes(graph, script):
    """The ascending list of the indexes of the statements that put something else where a walker can read it."""
    scene = Scene(graph)
    found = []
    for at, statement in enumerate(script):
        if is_fault(scene.graph, statement):
            raise Broken(at)
        if is_told(scene, statement):
            found.append(at)
        scene.go_on(statement)
    return found
