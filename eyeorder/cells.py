"""The cells of a tree in a box, and the openings between them."""

from eyeorder.errors import BadBox, BadCell
from eyeorder.kinds import is_integer, is_tuple_of_integers
from eyeorder.places import check_place, side
from eyeorder.polygons import corners_on, from_least, in_order, left_part, rectangle
from eyeorder.routes import cells_on, ways_from
from eyeorder.trees import check_tree


def is_box(plan, tree, thing):
    check_tree(plan, tree)
    return is_around(plan, thing) and () not in shapes(tree, rectangle(thing))


def cells(plan, tree, box):
    """What the cells have in common with the box, as polygons."""
    check_box(plan, tree, box)
    return tuple([from_least(shape) for shape in shapes(tree, rectangle(box))])


def cell_number(plan, tree, box, p):
    """The number of the cell in which a place is, None for a place on a line on its way or not inside the box."""
    check_box(plan, tree, box)
    check_place(p)
    if not is_inside(box, p):
        return None
    number = 0
    while tree is not None:
        line, _, left, right = tree
        where = side(line, p)
        if where == 0:
            return None
        if where == -1:
            number += many_cells(left)
        tree = left if where == 1 else right
    return number


def openings(plan, tree, box):
    """The table of openings (i, j, p, q) between the cells."""
    check_box(plan, tree, box)
    return table_of(tree, box)


def judge_way(plan, tree, box, i, j):
    """A certificate that there is a way from one cell to another one, or that there is none."""
    table = table_for(plan, tree, box, [i, j])
    ways = ways_from(table, (i,))
    return ("way", ways[j]) if j in ways else ("shut", tuple(sorted(ways)))


def way_holds(plan, tree, box, i, j, thing):
    """Whether thing is such a certificate."""
    table = table_for(plan, tree, box, [i, j])
    if not isinstance(thing, tuple) or len(thing) != 2:
        return False
    kind, told = thing
    if kind == "way":
        route = cells_on(table, i, told)
        return route is not None and route[-1] == j
    return kind == "shut" and are_cells(tree, told) and i in told and j not in told and is_shut(table, told)


def check_box(plan, tree, thing):
    """Raises BadPlan, BadTree, then BadBox."""
    if not is_box(plan, tree, thing):
        raise BadBox(thing)


def table_for(plan, tree, box, numbers):
    """The table of openings; raises BadPlan, BadTree, BadBox, then BadCell with the first that is no cell."""
    check_box(plan, tree, box)
    for number in numbers:
        if not is_cell(tree, number):
            raise BadCell(number)
    return table_of(tree, box)


def is_around(plan, thing):
    """Whether thing has the form of a box and all walls lie inside."""
    if not is_tuple_of_integers(thing, 4) or thing[0] >= thing[2] or thing[1] >= thing[3]:
        return False
    return all([is_inside(thing, (x, y, 1)) for wall in plan for x, y in wall[1:]])


def is_inside(box, p):
    """Whether the place is in the box and not on its border."""
    x, y, u, v = box
    return x * p[2] < p[0] < u * p[2] and y * p[2] < p[1] < v * p[2]


def is_cell(tree, thing):
    return is_integer(thing) and 0 <= thing < many_cells(tree)


def are_cells(tree, thing):
    """Whether thing is an ascending tuple of cells."""
    if not isinstance(thing, tuple) or not all([is_cell(tree, number) for number in thing]):
        return False
    return list(thing) == sorted(set(thing))


def is_shut(table, numbers):
    """Whether no opening leads out of these cells."""
    return all([(i in numbers) == (j in numbers) for i, j, _, _ in table])


def many_cells(tree):
    return 1 if tree is None else many_cells(tree[2]) + many_cells(tree[3])


def shapes(tree, polygon):
    """What each cell of the tree has in common with the polygon, () where this has no inside."""
    if tree is None:
        return [polygon]
    (a, b, c), _, left, right = tree
    lefts, rights = left_part(polygon, (a, b, c)), left_part(polygon, (-a, -b, -c))
    return [*shapes(left, lefts), *shapes(right, rights)]


def table_of(tree, box):
    return tuple(sorted(openings_in(tree, shapes(tree, rectangle(box)), 0)))


def openings_in(tree, polygons, first):
    """The openings between the cells of a tree, of which the first one has the number first."""
    if tree is None:
        return []
    line, pieces, left, right = tree
    middle = first + many_cells(left)
    table = [*openings_in(left, polygons, first), *openings_in(right, polygons, middle)]
    for i in range(first, middle):
        for j in range(middle, middle + many_cells(right)):
            parts = free_parts(line, pieces, [polygons[i], polygons[j]])
            table.extend([(i, j, p, q) for p, q in parts])
    return table


def free_parts(line, pieces, neighbours):
    """The parts of the border between two cells on different sides of the line that lie on none of its pieces."""
    edges = [in_order(line, corners_on(line, polygon)) for polygon in neighbours]
    if min([len(edge) for edge in edges]) < 2:
        return []
    # A wall that only ends on the line has its own line below, so it ends where a cell does: it needs no care.
    blocks = [in_order(line, [p, q]) for _, p, q in pieces]
    points = in_order(line, sorted({p for pair in edges + blocks for p in pair}))
    ranks = {p: k for k, p in enumerate(points)}
    found = []
    for k in range(len(points) - 1):
        within = [ranks[p] <= k < ranks[q] for p, q in edges]
        covered = [ranks[p] <= k < ranks[q] for p, q in blocks]
        if all(within) and not any(covered):
            found.append((points[k], points[k + 1]))
    return found
