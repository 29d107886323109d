"""Sights: all that can be behind a log, and how reads lead from sight to sight.

A sight is a tuple of tuples (names, stands): those of the cells that have come, and the set of the stands
where the walker can be then, as the bits of an integer.
"""
from askless.grounds import closed, reaches


def heads(program, names):
    """The list of the tuples (read without what it tells, place) of a walker to whom these cells have come."""
    found = [(("root", root), ("root", root)) for root in program.root_at]
    for k, name in enumerate(names):
        found.append((("mark", k), ("mark", name)))
        found += [(("field", k, field), ("field", name, field)) for field in program.field_at]
    return found


def told_by(head, names, worth):
    """The read that tells what stands at a place, and the names of the cells that have come behind it."""
    if head[0] == "mark":
        return (head + (worth,), names)
    if worth == "":
        return (head + (-1,), names)
    behind = names if worth in names else names + (worth,)
    return (head + (behind.index(worth),), behind)


def sights_behind(ground, reach, sight):
    """The dict from the reads that can come next, ascending, to the sights behind them."""
    found = {}
    for names, stands in sight:
        for head, place in heads(ground.source, names):
            for worth, mask in ground.masks[place].items():
                if stands & mask > 0:
                    read, behind = told_by(head, names, worth)
                    parts = found.setdefault(read, {})
                    parts[behind] = parts.get(behind, 0) | (stands & mask)
    return {read: closed_sight(reach, found[read]) for read in sorted(found)}


def closed_sight(reach, parts):
    """The sight in which writers and the house have gone on from the stands of some names."""
    return tuple([(names, closed(reach, parts[names])) for names in sorted(parts)])


def turns_of(ground):
    """The list of the dicts from the reads that can come next to the number of the dict behind them."""
    reach = reaches(ground.ways())
    begin = (((), ground.everywhere()),)
    numbers = {begin: 0}
    line = [begin]
    turns = []
    while len(turns) < len(line):
        turn = sights_behind(ground, reach, line[len(turns)])
        for sight in turn.values():
            if sight not in numbers:
                numbers[sight] = len(numbers)
                line.append(sight)
        turns.append({read: numbers[sight] for read, sight in turn.items()})
    return turns


def merged(turns):
    """The turns of which those are one that have the same reads behind them, numbered by their least logs."""
    groups = [0] * len(turns)
    many = 0
    while many < len(set(groups)):
        many = len(set(groups))
        signs = [tuple([(read, groups[to]) for read, to in turn.items()]) for turn in turns]
        numbers = numbered_anew(signs)
        groups = [numbers[sign] for sign in signs]
    chosen = {group: at for at, group in enumerate(groups)}
    order = {groups[0]: 0}
    line = [groups[0]]
    found = []
    while len(found) < len(line):
        turn = {read: groups[to] for read, to in turns[chosen[line[len(found)]]].items()}
        for group in turn.values():
            if group not in order:
                order[group] = len(order)
                line.append(group)
        found.append({read: order[group] for read, group in turn.items()})
    return found


def numbered_anew(things):
    """The dict from the different ones of some values to their numbers."""
    numbers = {}
    for thing in things:
        if thing not in numbers:
            numbers[thing] = len(numbers)
    return numbers


def least_missing(turns, others):
    """The least log that some turns have and other ones have not, or None."""
    line = [(0, 0, 0, ())]
    seen = {(0, 0): True}
    at = 0
    while at < len(line):
        here, there = line[at][:2]
        for read, to in turns[here].items():
            if read not in others[there]:
                return log_along(line, at) + [read]
            pair = (to, others[there][read])
            if pair not in seen:
                seen[pair] = True
                line.append((*pair, at, read))
        at += 1
    return None


def log_along(line, at):
    """The log that leads to an item of a list of tuples (turn, other turn, index of the one ahead, read)."""
    log = []
    while at > 0:
        log.append(line[at][3])
        at = line[at][2]
    return log[::-1]
