"""Scripts: statements of one writer on a graph, and what walkers can hold and read meanwhile."""
from askless.errors import Broken
from askless.kinds import is_name, is_number
from askless.rows import GONE
from askless.scenes import Scene, change, is_fault
from askless.statements import has_form

WORDS = ("new", "mark", "point", "root", "free", "quiet")


def is_script(thing):
    """Whether a value is a list of statements of a script, with any names."""
    return isinstance(thing, list) and all([is_line(part) for part in thing])


def is_line(thing):
    """Whether a value is a statement of a script."""
    if has_form(thing):
        return thing[0] in WORDS
    if not isinstance(thing, tuple) or len(thing) != 3:
        return False
    return isinstance(thing[0], str) and thing[0] == "copy" and is_name(thing[1]) and is_name(thing[2])


def moments(graph, script):
    """The list of the graphs of all moments of a script."""
    now = graph.copied()
    found = [graph.copied()]
    for at, statement in enumerate(script):
        if is_fault(now, statement):
            raise Broken(at)
        change(now, statement)
        found.append(now.copied())
    return found


def held(graph, script):
    """For each moment the dict from the cells that a walker can hold to its latest begin."""
    scene = Scene(graph)
    found = [scene.told_begins()]
    for at, statement in enumerate(script):
        if is_fault(scene.graph, statement):
            raise Broken(at)
        scene.go_on(statement)
        found.append(scene.told_begins())
    return found


def first_wrong(graph, script):
    """The tuple (word, at, walk) of the first statement that goes wrong, or of the word "right"."""
    scene = Scene(graph)
    for at, statement in enumerate(script):
        if is_fault(scene.graph, statement):
            return ("fault", at, [])
        if statement[0] == "free" and statement[1] in scene.begins:
            return ("held", at, list(scene.trails[statement[1]]))
        scene.go_on(statement)
        gone = scene.gone_places()
        if len(gone) > 0:
            ahead = () if gone[0][0] == "root" else scene.trails[gone[0][1]]
            return ("gone", at, [*ahead, (scene.moment, gone[0])])
    return ("right", len(script), [])


def outcome(graph, script):
    """What comes of a script: ("right",), or how the first statement that goes wrong does, and its index."""
    word, at, reads = first_wrong(graph, script)
    return (word,) if word == "right" else (word, at)


def wrong_walk(graph, script):
    """A walk that tells a cell which is freed then, or what is gone, or None."""
    word, at, reads = first_wrong(graph, script)
    return None if word in ("right", "fault") else reads


def is_stop(many, thing):
    """Whether a value is a tuple of a moment, one of so many, and any other value."""
    return isinstance(thing, tuple) and len(thing) == 2 and is_number(many, thing[0])


def is_walk(graph, script, thing):
    """Whether a value is a walk of a script."""
    if not isinstance(thing, list) or not all([is_stop(len(script) + 1, stop) for stop in thing]):
        return False
    times = [stop[0] for stop in thing]
    if len(thing) == 0 or times != sorted(times):
        return len(thing) == 0
    if ("quiet",) in script[times[0]:times[-1]]:
        return False
    now = graph.copied()
    found = {}
    for index, (moment, place) in enumerate(thing):
        since = times[index - 1] if index > 0 else 0
        for statement in script[since:moment]:
            if is_fault(now, statement) or (statement[0] == "free" and statement[1] in found):
                return False
            change(now, statement)
        if place not in now or (place[0] != "root" and place[1] not in found):
            return False
        worth = now[place]
        if worth == GONE and index + 1 < len(thing):
            return False
        if place[0] != "mark" and worth not in ("", GONE):
            found[worth] = True
    return True
