"""All that one walker can see, told from the definitions alone: every state of every run is visited.

What is kept of a walk's moments is told by a keeper, so that one visit serves logs, moments and chains.
"""
from tests.model import World


class Keeper:
    """Keeps nothing."""

    def begin(self, world):
        return ()

    def moment(self, kept, world):
        """What is kept when there is a further moment."""
        return kept

    def freed(self, kept, cell):
        return kept

    def may_read(self, kept, log, read):
        return True


def told_by(world, cells, place):
    """(the read but for what it tells, the target or the mark that stands there)."""
    if place[0] == "root":
        return place, world.root[place[1]]
    mark, targets = world.things[cells[place[1]]]
    return place, mark if place[0] == "mark" else targets[place[2]]


def places_of(world, cells):
    found = [("root", root) for root in world.root_names]
    for k in range(len(cells)):
        found += [("mark", k)] + [("field", k, field) for field in world.field_names]
    return found


def key_of(world, begin, cells, kept):
    things = tuple((cell, world.things[cell][0], tuple(sorted(world.things[cell][1].items()))) for cell in sorted(world.things))
    asked = tuple((name, asking > begin) for name, asking in world.asked)
    return (tuple(world.at), things, tuple(sorted(world.root.items())), tuple(sorted(world.lock.items())), asked,
            tuple(world.under_way), cells, kept)


def settled(states, keeper):
    """All (world, begin, cells, kept, steps) to which writers and the house lead, with the fewest steps to each."""
    found, line = {}, sorted(states, key=lambda state: state[4])
    while line:
        further = []
        line.sort(key=lambda state: state[4])
        for state in line:
            world, begin, cells, kept, steps = state
            key = key_of(world, begin, cells, kept)
            if key in found and found[key][4] <= steps:
                continue
            found[key] = state
            for step in world.steps():
                asking = world.awaits(step)
                if asking is not None and asking > begin:
                    continue
                cell, other = world.frees(step), world.copied()
                other.do(step)
                assert cell not in cells
                after = keeper.freed(kept, cell) if cell else kept
                further.append((other, begin, cells, keeper.moment(after, other), steps + 1))
        line = further
    return list(found.values())


def begun(parts, keeper):
    """The states of a walker that has just begun, at each moment of each run."""
    class Never(Keeper):
        pass
    cells, roots, bodies, fields = parts
    world = World(cells, roots, fields, bodies)
    worlds = settled([(world, 10 ** 9, (), (), 0)], Never())
    found = []
    for world, begin, cells, kept, steps in worlds:
        found.append((world, world.clock, (), keeper.begin(world), steps))
    return found


def visit(parts, keeper, longest):
    """The dict from all logs of at most so many reads to the states right behind their last read."""
    found = {(): begun(parts, keeper)}
    line = [()]
    while line:
        log = line.pop()
        if len(log) == longest:
            continue
        behind = {}
        for world, begin, cells, kept, steps in settled(found[log], keeper):
            for place in places_of(world, cells):
                head, worth = told_by(world, cells, place)
                assert worth != "?"
                more = cells if head[0] == "mark" or worth in cells or worth == "" else cells + (worth,)
                number = worth if head[0] == "mark" else -1 if worth == "" else more.index(worth)
                read = head + (number,)
                if keeper.may_read(kept, log, read):
                    behind.setdefault(log + (read,), []).append((world, begin, more, kept, steps))
        for other in behind:
            found[other] = behind[other]
            line.append(other)
    return found


class Moments(Keeper):
    """Keeps what stood at each moment of an entry; a cell that was freed since is told as gone."""

    def begin(self, world):
        return frozenset([told_at(world)])

    def moment(self, kept, world):
        return kept | {told_at(world)}

    def freed(self, kept, cell):
        def old(moment):
            there = [(place, "?" if place[0] != "mark" and worth == cell else worth) for place, worth in moment]
            return tuple((place, worth) for place, worth in there if place[0] == "root" or place[1] != cell)
        return frozenset(old(moment) for moment in kept)

    def may_read(self, kept, log, read):
        return read[:-1] not in [other[:-1] for other in log]


def told_at(world):
    """All that stands at a moment, as an ascending tuple of places and worths."""
    found = [(("root", root), target) for root, target in world.root.items()]
    for cell, (mark, targets) in world.things.items():
        found += [(("mark", cell), mark)] + [(("field", cell, field), target) for field, target in targets.items()]
    return tuple(sorted(found))


def fits(moment, log, cells):
    """Whether all that was read stood at a moment."""
    there = dict(moment)
    for read in log:
        place = read[:-1] if read[0] == "root" else (read[0], cells[read[1]]) + read[2:-1]
        worth = read[-1] if read[0] == "mark" else "" if read[-1] == -1 else cells[read[-1]]
        if there.get(place) != worth:
            return False
    return all(("mark", cell) in there for cell in cells)


class Members(Keeper):
    """Keeps which cells were members at all moments of a walk along a chain, and which were at some."""

    def __init__(self, root, field):
        self.root, self.field = root, field

    def members(self, world):
        found, cell = [], world.root[self.root]
        while cell in world.things and cell not in found:
            found.append(cell)
            cell = world.things[cell][1][self.field]
        return frozenset(found)

    def begin(self, world):
        return (self.members(world), self.members(world))

    def moment(self, kept, world):
        return (kept[0] & self.members(world), kept[1] | self.members(world))

    def freed(self, kept, cell):
        return (kept[0] - {cell}, kept[1] - {cell})

    def may_read(self, kept, log, read):
        if not log:
            return read[:-1] == ("root", self.root)
        return log[-1][-1] >= 0 and read[:-1] == ("field", log[-1][-1], self.field)
