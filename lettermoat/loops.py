"""Who can move, worlds that rest, fair loops, and lassos, which show that a claim does not lead to another."""

from lettermoat.claims import check_claim, check_claim_or_none, is_so
from lettermoat.errors import NoMove
from lettermoat.runs import worlds_from, worlds_of
from lettermoat.worlds import choices


def can_move(program, world, k):
    return choices(program, world, k) != ()


def rests(program, world):
    return not any([can_move(program, world, k) for k in range(len(world[0]))])


# The worlds have as many hands, as those of a loop and those of a knot do.
def hands_always_able(program, worlds):
    able = []
    for k in range(len(worlds[0][0])):
        if all([can_move(program, world, k) for world in worlds]):
            able.append(k)
    return able


def has_move_of(run, k):
    return any([move[0] == "hand" and move[1] == k for move in run])


def is_fair(program, world, loop):
    passed = worlds_from(program, world, loop)
    if len(loop) == 0 or passed[-1] != world:
        return False
    return all([has_move_of(loop, k) for k in hands_always_able(program, passed)])


def is_with(world, p):
    return p is None or is_so(world, p)


# A world ahead of the last one with Q can't be the one that is looked for.
def ends_without(worlds, p, q):
    for world in reversed(worlds):
        if is_so(world, q):
            return False
        if is_with(world, p):
            return True
    return False


def lasso_stands(program, p, q, stem, loop):
    check_claim_or_none(program, p)
    check_claim(program, q)
    try:
        worlds = worlds_of(program, stem)
        passed = worlds_from(program, worlds[-1], loop)
    except NoMove:
        return False
    if not ends_without(worlds, p, q) or any([is_so(world, q) for world in passed]):
        return False
    if len(loop) == 0:
        return rests(program, worlds[-1])
    return is_fair(program, worlds[-1], loop)
