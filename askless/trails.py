"""Trails: the reads by which a walker comes to a cell, kept beside what tells that it can."""


def spread_trails(links, ranks, trails, fresh, moment):
    """Let ranks rise along links, and note for each cell that rises how a walker came to it.

    Links are tuples (place, target), from roots and from fields of cells to cells; ranks is the dict from
    the cells that walkers can hold; what a root leads to has the rank fresh. A trail is a tuple of reads,
    tuples (moment, place), the first of a root, each other one of a field of the cell that the one ahead told.
    """
    rising = True
    while rising:
        rising = False
        for place, target in links:
            rank = fresh if place[0] == "root" else ranks.get(place[1], -1)
            if rank > ranks.get(target, -1):
                trail = () if place[0] == "root" else trails[place[1]]
                ranks[target] = rank
                trails[target] = trail + ((moment, place),)
                rising = True


def with_walkers(steps, trails):
    """The run of some steps with a walker for each trail, who enters ahead of its first read and stays."""
    line = sorted(trails)
    run = []
    for moment in range(len(steps) + 1):
        for walker, trail in enumerate(line):
            if trail[0][0] == moment:
                run.append(("enter",))
            for k, (when, place) in enumerate(trail):
                if when == moment:
                    run.append(read_at(walker, k, place))
        run.extend(steps[moment:moment + 1])
    return run


def read_at(walker, k, place):
    """The step of a walker that reads a place, of the cell that its read ahead told, having read k times."""
    if place[0] == "root":
        return ("root", walker, place[1])
    return ("field", walker, k - 1, place[2])
