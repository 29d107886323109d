"""Cheapest ways: what is reached with the fewest steps of writers and of the house."""


def cheapest(starts, moves, goal):
    """The tuple (start, steps) of a cheapest way to a node with goal as its last part, or None.

    Starts are tuples (cost, node); moves gives the list of the tuples (cost, step, node) from a node, each cost 0 or 1,
    those of cost 0 last. The last part of a node tells how many reads of a log are done: what is otherwise the same
    can come to no less with more of them.
    """
    lines = {}
    for cost, node in starts:
        lines.setdefault(cost, []).append((node, None))
    backs = {}
    most_done = {}
    cost = 0
    while len(lines) > 0:
        line = lines.pop(cost, [])
        cost += 1
        while len(line) > 0:
            node, back = line.pop()
            if most_done.get(node[:-1], -1) >= node[-1]:
                continue
            most_done[node[:-1]] = node[-1]
            backs[node] = back
            if node[-1] == goal:
                return traced(backs, node)
            for price, step, to in moves(node):
                if price == 0:
                    line.append((to, (step, node)))
                else:
                    lines.setdefault(cost, []).append((to, (step, node)))
    return None


def traced(backs, end):
    """The start of a way and the list of its steps, from how each node was reached."""
    steps = []
    node = end
    while backs[node] is not None:
        step, node = backs[node]
        steps.append(step)
    return (node, steps[::-1])
