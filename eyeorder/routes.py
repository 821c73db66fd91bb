"""Going from cell to cell through the openings (i, j, p, q) of a table, each known by its position."""

from eyeorder.kinds import is_integer


def beyond(opening, cell):
    """The cell on the other side of the opening, or None if the cell is on neither side."""
    i, j, _, _ = opening
    if cell == i:
        return j
    return i if cell == j else None


def cells_on(table, i, thing):
    """The cells on a way through these openings, from i on; None for any value that is not one to no cell twice."""
    if not isinstance(thing, tuple):
        return None
    route = [i]
    for k in thing:
        if not is_integer(k) or not 0 <= k < len(table):
            return None
        to = beyond(table[k], route[-1])
        if to is None or to in route:
            return None
        route.append(to)
    return tuple(route)


def longer(table, chain, route):
    """The chains that go through one opening more, to a new cell, each with the cells on it."""
    steps = [(k, beyond(opening, route[-1])) for k, opening in enumerate(table)]
    return [((*chain, k), (*route, to)) for k, to in steps if to is not None and to not in route]


def ways_from(table, route):
    """A way from the last cell of the route to each cell that one can go to without the others of the route."""
    ways = {route[-1]: ()}
    waiting = [route[-1]]
    while waiting:
        cell = waiting.pop(0)
        steps = longer(table, ways[cell], (cell,))
        for chain, (_, to) in steps:
            if to not in ways and to not in route:
                ways[to] = chain
                waiting.append(to)
    return ways
