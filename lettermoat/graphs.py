"""All worlds to which runs lead, and the ways to them."""

from lettermoat.errors import NoWorlds, TooMany
from lettermoat.programs import is_wide
from lettermoat.worlds import moved, moves, start_world


def ahead(program, world):
    return tuple([(move, moved(program, world, move)) for move in moves(program, world)])


# Each world found is kept with the move that found it and the world ahead of that: so of the ways to it the first
# of the shortest is kept. Where most is None there may be any number.
def found_from(starts, ahead_of, most):
    found = dict([(start, None) for start in starts])
    row = list(found)
    count = 0
    while count < len(row):
        if most is not None and len(row) > most:
            raise TooMany(f"there are more than {most}")
        world = row[count]
        for move, behind in ahead_of(world):
            if behind not in found:
                found[behind] = (move, world)
                row.append(behind)
        count += 1
    return found


def check_not_wide(program):
    if is_wide(program):
        raise NoWorlds("a program with a wide road has worlds without end")


def found_worlds(program, most):
    check_not_wide(program)
    return found_from((start_world(program),), lambda world: ahead(program, world), most)


def way_back(found, world):
    run = []
    place = world
    while found[place] is not None:
        run.append(found[place][0])
        place = found[place][1]
    return tuple(reversed(run))


def all_worlds(program, most):
    return tuple(found_worlds(program, most))


def way_to(program, world, most):
    found = found_worlds(program, most)
    return way_back(found, world) if world in found else None
