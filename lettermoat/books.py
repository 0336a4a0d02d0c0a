"""Books of worlds, which show that a claim never holds or that there is no halt, and runs that show the contrary."""

from lettermoat.claims import check_claim, is_so
from lettermoat.graphs import ahead, found_worlds, way_back
from lettermoat.worlds import is_world, moves, start_world, stopped


def is_halt(program, world):
    return moves(program, world) == () and not all([stopped(program, hand) for hand in world[0]])


# The worlds come in the order in which they were found, so the first such one has the way that is asked for.
def told_of(found, is_such):
    for world in found:
        if is_such(world):
            return ("run", way_back(found, world))
    return ("book", tuple(sorted(found)))


def never_told(program, claim, most):
    check_claim(program, claim)
    return told_of(found_worlds(program, most), lambda world: is_so(world, claim))


def halt_told(program, most):
    return told_of(found_worlds(program, most), lambda world: is_halt(program, world))


def is_book_without(program, worlds, is_such):
    if not all([is_world(program, world) for world in worlds]) or list(worlds) != sorted(worlds):
        return False
    known = dict([(world, True) for world in worlds])
    if start_world(program) not in known:
        return False
    for world in worlds:
        if is_such(world) or not all([behind in known for move, behind in ahead(program, world)]):
            return False
    return True


def book_stands(program, claim, worlds):
    check_claim(program, claim)
    return is_book_without(program, worlds, lambda world: is_so(world, claim))


def halt_book_stands(program, worlds):
    return is_book_without(program, worlds, lambda world: is_halt(program, world))
