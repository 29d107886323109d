"""Spans: between which gaps a script needs a quiet, and the fewest quiets with which it is right."""
from askless.errors import Broken, Hopeless, NotBare
from askless.kinds import is_integer, is_number
from askless.scenes import Scene, is_fault
from askless.scripts import outcome


def in_gaps(script, gaps):
    """The script with a quiet in each of different gaps."""
    found = []
    for gap in range(len(script) + 1):
        if gap in gaps:
            found.append(("quiet",))
        found.extend(script[gap:gap + 1])
    return found


def harms_at(scene, at, statement):
    """The list of the harms that a statement does, which the scene goes on with."""
    found = []
    if statement[0] == "free" and statement[1] in scene.begins:
        found.append((scene.begins[statement[1]] + 1, at, at))
    ahead = scene.latest_gone()
    scene.go_on(statement)
    behind = scene.latest_gone()
    if behind > ahead:
        found.append((behind + 1, at, at))
    return found


def spans(graph, script):
    """The ascending list of all harms of a script without quiets."""
    for at, statement in enumerate(script):
        if statement == ("quiet",):
            raise NotBare(at)
    scene = Scene(graph)
    harms = []
    for at, statement in enumerate(script):
        if is_fault(scene.graph, statement):
            raise Broken(at)
        harms.extend(harms_at(scene, at, statement))
    for first, last, at in harms:
        if first > last:
            raise Hopeless(at)
    return sorted(set(harms))


def fewest(graph, script):
    """As few gaps as possible such that quiets there take all harms away, and as many harms apart."""
    gaps = []
    apart = []
    by_last = sorted([(last, first, at) for first, last, at in spans(graph, script)])
    for last, first, at in by_last:
        if len(gaps) == 0 or gaps[-1] < first:
            gaps.append(last)
            apart.append((first, last, at))
    return (gaps, sorted(apart))


def is_fewest(graph, script, gaps, apart):
    """Whether values are gaps of quiets that take all harms away, and as many harms without common gaps."""
    harms = spans(graph, script)
    if not isinstance(gaps, list) or not all([is_number(len(script) + 1, gap) for gap in gaps]):
        return False
    if len(set(gaps)) != len(gaps):
        return False
    if not all([any([first <= gap <= last for gap in gaps]) for first, last, at in harms]):
        return False
    if not isinstance(apart, list) or len(apart) != len(gaps):
        return False
    if not all([is_harm(harms, thing) for thing in apart]):
        return False
    line = sorted(apart)
    return all([one[1] < other[0] for one, other in zip(line, line[1:])])


def is_harm(harms, thing):
    """Whether a value is one of some harms."""
    # True and False equal some of the numbers, but are none.
    return isinstance(thing, tuple) and all([is_integer(part) for part in thing]) and thing in harms


def idle_quiets(graph, script):
    """The ascending list of the indexes of the quiets of a right script that can be left out, each alone."""
    quiets = [at for at, statement in enumerate(script) if statement == ("quiet",)]
    return [at for at in quiets if outcome(graph, script[:at] + script[at + 1:]) == ("right",)]
