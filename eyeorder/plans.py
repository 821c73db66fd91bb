"""Walls, plans of walls, and their texts."""

from eyeorder.errors import BadPlan, BadText
from eyeorder.kinds import DIGITS, is_tuple_of_integers, is_name


def is_plan(thing):
    return is_named_apart(thing) and first_clash(thing) is None


def fault(walls):
    """The first fault of a tuple of walls with different names, or None."""
    if not is_named_apart(walls):
        raise BadPlan(walls)
    return first_clash(walls)


def plan_text(plan):
    check_plan(plan)
    return "\n".join([told(one) for one in plan])


def read_plan(text):
    """The plan of a text."""
    if not isinstance(text, str):
        raise BadText(0)
    if text == "":
        return ()
    walls = []
    for number, line in enumerate(text.split("\n"), start=1):
        one = read_line(line)
        if one is None or not fits(walls, one):
            raise BadText(number)
        walls.append(one)
    return tuple(walls)


def check_plan(thing):
    if not is_plan(thing):
        raise BadPlan(thing)


def is_named_segment(thing):
    """Whether thing is a single wall."""
    if not isinstance(thing, tuple) or len(thing) != 3:
        return False
    name, p, q = thing
    return is_name(name) and is_tuple_of_integers(p, 2) and is_tuple_of_integers(q, 2) and p != q


def is_named_apart(thing):
    """Whether thing is a tuple of walls with different names."""
    if not isinstance(thing, tuple) or not all([is_named_segment(one) for one in thing]):
        return False
    return len({one[0] for one in thing}) == len(thing)


def first_clash(walls):
    for i in range(len(walls)):
        for j in range(i + 1, len(walls)):
            if clash(walls[i], walls[j]):
                return ("meet", i, j)
    return None


def fits(walls, wall):
    """Whether the walls of a plan and this one behind them are a plan."""
    return all([old[0] != wall[0] and not clash(old, wall) for old in walls])


def clash(one, other):
    """Whether two walls have a common point that is an end of neither, or more than one."""
    _, p, q = one
    _, r, s = other
    if turn(p, q, r) == turn(p, q, s) == 0:
        # Points of one line sort along it, so the pairs can be compared as they are.
        return max(min(p, q), min(r, s)) < min(max(p, q), max(r, s))
    return separates(p, q, r, s) and separates(r, s, p, q)


def separates(p, q, r, s):
    """Whether r and s lie on different sides of the line through p and q, and not on it."""
    return turn(p, q, r) * turn(p, q, s) < 0


def turn(p, q, r):
    """Above 0 if someone who goes from p to q has r on the left, below 0 on the right, 0 ahead or behind."""
    return (q[0] - p[0]) * (r[1] - p[1]) - (q[1] - p[1]) * (r[0] - p[0])


def told(wall):
    """The line of a text for a wall."""
    name, (x, y), (u, v) = wall
    return f"wall {name} {x} {y} {u} {v}"


def read_line(line):
    """The wall of a line of a text, or None if it is not such a line."""
    words = line.split(" ")
    if len(words) != 6 or words[0] != "wall" or not all([is_numeral(word) for word in words[2:]]):
        return None
    x, y, u, v = [int(word) for word in words[2:]]
    wall = (words[1], (x, y), (u, v))
    return wall if is_named_segment(wall) else None


def is_numeral(word):
    # The function int takes more than the document allows: blanks, a plus, underscores, foreign digits.
    digits = word.removeprefix("-")
    if digits == "" or not all([sign in DIGITS for sign in digits]):
        return False
    return digits[0] != "0" or word == "0"
