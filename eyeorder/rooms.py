"""Which cells can be seen from which, through chains of openings."""

from eyeorder.cells import table_for
from eyeorder.chains import corners, is_bar, least_bar, line_between, parts
from eyeorder.errors import BadChain
from eyeorder.routes import cells_on, longer, ways_from


def judge_chain(plan, tree, box, i, chain):
    """A certificate that a line leads through a chain of openings from a cell, or that none does."""
    lefts, rights = corners_for(plan, tree, box, i, chain)
    line = line_between(lefts, rights)
    return ("bar", *least_bar(lefts, rights)) if line is None else ("line", line)


def chain_holds(plan, tree, box, i, chain, thing):
    """Whether thing is such a certificate."""
    lefts, rights = corners_for(plan, tree, box, i, chain)
    if not isinstance(thing, tuple):
        return False
    if len(thing) == 2 and thing[0] == "line":
        return parts(thing[1], lefts, rights)
    return len(thing) == 3 and thing[0] == "bar" and is_bar(thing[1], thing[2], lefts, rights)


def judge_seen(plan, tree, box, i, j):
    """A certificate that one cell can be seen from another one, or that all chains to it are barred."""
    table = table_for(plan, tree, box, [i, j])
    if i == j:
        return ("seen", (), None)
    bars = []
    waiting = [((), (i,))]
    while waiting:
        way = waiting.pop()
        for chain, route in onward(table, way, j):
            lefts, rights = corners(table, i, chain)
            line = line_between(lefts, rights)
            if line is None:
                bars.append((chain, *least_bar(lefts, rights)))
            elif route[-1] == j:
                return ("seen", chain, line)
            else:
                waiting.append((chain, route))
    return ("hidden", tuple(sorted(bars)))


def seen_holds(plan, tree, box, i, j, thing):
    """Whether thing is such a certificate."""
    table = table_for(plan, tree, box, [i, j])
    if not isinstance(thing, tuple):
        return False
    if len(thing) == 3 and thing[0] == "seen":
        return is_sight(table, i, j, thing[1], thing[2])
    if len(thing) != 2 or thing[0] != "hidden" or not are_barred(table, i, thing[1]):
        return False
    return is_hidden_by(table, i, j, {row[0]: True for row in thing[1]})


def seen_from(plan, tree, box, i):
    """All cells that can be seen from a cell."""
    table = table_for(plan, tree, box, [i])
    found = {i: True}
    waiting = [((), (i,))]
    while waiting:
        chain, route = waiting.pop()
        for further, cells in longer(table, chain, route):
            lefts, rights = corners(table, i, further)
            if line_between(lefts, rights) is not None:
                found[cells[-1]] = True
                waiting.append((further, cells))
    return tuple(sorted(found))


def corners_for(plan, tree, box, i, chain):
    """The corners of a chain from i; raises BadPlan, BadTree, BadBox, BadCell, then BadChain."""
    table = table_for(plan, tree, box, [i])
    if chain == () or cells_on(table, i, chain) is None:
        raise BadChain(chain)
    return corners(table, i, chain)


def onward(table, way, j):
    """The chains longer by one opening from which one can still come to j, each with the cells on it."""
    chain, route = way
    return [step for step in longer(table, chain, route) if j in ways_from(table, step[1])]


def is_sight(table, i, j, chain, line):
    """Whether any two values are a chain from i to j and a line that leads through it."""
    if i == j:
        return chain == () and line is None
    route = cells_on(table, i, chain)
    if route is None or route[-1] != j:
        return False
    lefts, rights = corners(table, i, chain)
    return parts(line, lefts, rights)


def are_barred(table, i, thing):
    """Whether thing is an ascending tuple of chains from i, each with a bar of it."""
    if not isinstance(thing, tuple) or not all([is_barred(table, i, row) for row in thing]):
        return False
    return list(thing) == sorted(set(thing))


def is_barred(table, i, thing):
    if not isinstance(thing, tuple) or len(thing) != 3:
        return False
    chain, some, others = thing
    if chain == () or cells_on(table, i, chain) is None:
        return False
    lefts, rights = corners(table, i, chain)
    return is_bar(some, others, lefts, rights)


def is_hidden_by(table, i, j, barred):
    """Whether one does not come to j from i without one of the barred chains."""
    # Only ways that still can lead to j are followed, so each ends at j or at a barred chain: they are few.
    waiting = [((), (i,))]
    while waiting:
        way = waiting.pop()
        if way[1][-1] == j:
            return False
        waiting.extend([step for step in onward(table, way, j) if step[0] not in barred])
    return True
