"""Books of worlds, which show that a claim never holds or that there is no halt, and runs that show the contrary."""

from lettermoat.claims import check_claim, is_so
from lettermoat.graphs import ahead, found_worlds, way_back
from lettermoat.worlds import is_world, moves, start_world, stopped


def is_halt(program, world):
    return moves(program, world) == () and not all([stopped(program, hand) for hand in world[0]])


# What is looked for: a world in which the claim holds, for None a halt.
def is_sought(program, claim, world):
    return is_halt(program, world) if claim is None else is_so(world, claim)


# The worlds come in the order in which they were found, so the first such one has the way that is asked for.
def told_of(program, claim, found):
    for world in found:
        if is_sought(program, claim, world):
            return ("run", way_back(found, world))
    return ("book", tuple(sorted(found)))


def never_told(program, claim, most):
    check_claim(program, claim)
    return told_of(program, claim, found_worlds(program, most))


def halt_told(program, most):
    return told_of(program, None, found_worlds(program, most))


# Which moves there are, and what comes of them, is told by ahead_of: books of several sorts are judged here.
def is_book(program, worlds, start, ahead_of):
    if not all([is_world(program, world) for world in worlds]) or list(worlds) != sorted(worlds):
        return False
    known = dict([(world, True) for world in worlds])
    if start not in known:
        return False
    for world in worlds:
        if not all([behind in known for move, behind in ahead_of(world)]):
            return False
    return True


def has_none_sought(program, claim, worlds):
    return not any([is_sought(program, claim, world) for world in worlds])


def is_plain_book(program, worlds):
    return is_book(program, worlds, start_world(program), lambda world: ahead(program, world))


def book_stands(program, claim, worlds):
    check_claim(program, claim)
    return is_plain_book(program, worlds) and has_none_sought(program, claim, worlds)


def halt_book_stands(program, worlds):
    return is_plain_book(program, worlds) and has_none_sought(program, None, worlds)
