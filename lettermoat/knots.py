"""Knots of worlds, their helpers, and fair loops through them."""

from lettermoat.errors import NoWitness
from lettermoat.graphs import ahead, found_from, way_back
from lettermoat.loops import hands_always_able, has_move_of


# For each world, by its number among them, the pairs of a move and the number of the world behind, if it is of them.
def ways_among(program, worlds):
    numbers = dict([(world, number) for number, world in enumerate(worlds)])
    rows = []
    for world in worlds:
        rows.append([(move, numbers[behind]) for move, behind in ahead(program, world) if behind in numbers])
    return rows


def numbers_ahead(ways):
    return [[number for move, number in row] for row in ways]


def turned_round(rows):
    back = [[] for row in rows]
    for number, row in enumerate(rows):
        for behind in row:
            back[behind].append(number)
    return back


# Goes as far as it can from the root; numbers are told as they are left for good. No call calls itself, as the way
# may be long.
def left_from(rows, root, seen):
    order = []
    seen[root] = True
    trail = [[root, 0]]
    while trail:
        top = trail[-1]
        row = rows[top[0]]
        if top[1] == len(row):
            order.append(top[0])
            trail.pop()
        else:
            behind = row[top[1]]
            top[1] += 1
            if behind not in seen:
                seen[behind] = True
                trail.append([behind, 0])
    return order


def all_left(rows):
    order = []
    seen = {}
    for root in range(len(rows)):
        if root not in seen:
            order.extend(left_from(rows, root, seen))
    return order


# Who is left last leads to all that lead back to it: so what it reaches the other way round is its knot.
def knots_of(program, worlds):
    rows = numbers_ahead(ways_among(program, worlds))
    back = turned_round(rows)
    seen = {}
    knots = []
    for root in reversed(all_left(rows)):
        if root not in seen:
            knots.append(tuple(sorted([worlds[number] for number in left_from(back, root, seen)])))
    return tuple(sorted(knots))


def is_bare(program, knot):
    return ways_among(program, knot) == [[]]


def leads_by(row, k):
    return has_move_of([move for move, number in row], k)


def helper_of(program, knot):
    ways = ways_among(program, knot)
    for k in hands_always_able(program, knot):
        if not any([leads_by(row, k) for row in ways]):
            return k
    return None


# The nearest world that is looked for, with the way to it.
def nearest(ways, place, is_sought):
    found = found_from((place,), lambda number: ways[number], len(ways))
    for number in found:
        if is_sought(number):
            return (number, way_back(found, number))
    raise NoWitness("the worlds are no knot")


def fair_loop(program, knot):
    if is_bare(program, knot) or helper_of(program, knot) is not None:
        raise NoWitness("the knot is bare or has a helper")
    ways = ways_among(program, knot)
    run = []
    place = 0
    left = dict([(number, True) for number in range(1, len(knot))])
    while left:
        step = nearest(ways, place, lambda number: number in left)
        place = step[0]
        run.extend(step[1])
        left.pop(place)
    for k in hands_always_able(program, knot):
        step = nearest(ways, place, lambda number: leads_by(ways[number], k))
        own = [pair for pair in ways[step[0]] if leads_by([pair], k)][0]
        run.extend(step[1] + (own[0],))
        place = own[1]
    run.extend(nearest(ways, place, lambda number: number == 0)[1])
    return (knot[0], tuple(run))
