"""Folded worlds, in which hands stand in order, and books and runs of them: hands that are like count once."""

from lettermoat.books import has_none_sought, is_book, told_of
from lettermoat.claims import check_claim_or_none
from lettermoat.errors import NoMove
from lettermoat.graphs import ahead, check_not_wide, found_from
from lettermoat.runs import worlds_of
from lettermoat.worlds import moved, start_world


def folded(world):
    hands = world[0]
    row = sorted(range(len(hands)), key=lambda k: (hands[k], k))
    return ((tuple([hands[k] for k in row]), world[1]), tuple(row))


def with_doer(move, k):
    return (move[0], k, move[2])


def fold_move(world, move):
    if move[0] == "lose":
        return move
    return with_doer(move, folded(world)[1].index(move[1]))


def fold_run(program, run):
    worlds = worlds_of(program, run)
    return tuple([fold_move(world, move) for world, move in zip(worlds, run)])


def lift_move(world, move):
    if move[0] == "lose":
        return move
    row = folded(world)[1]
    if not 0 <= move[1] < len(row):
        raise NoMove(f"no hand stands at the place of {move!r}")
    return with_doer(move, row[move[1]])


def lifted(program, moves):
    run = []
    world = start_world(program)
    for move in moves:
        run.append(lift_move(world, move))
        world = moved(program, world, run[-1])
    return tuple(run)


def folded_start(program):
    return folded(start_world(program))[0]


def folded_ahead(program, world):
    return [(move, folded(behind)[0]) for move, behind in ahead(program, world)]


def folded_told(program, claim, most):
    check_claim_or_none(program, claim)
    check_not_wide(program)
    found = found_from((folded_start(program),), lambda world: folded_ahead(program, world), most)
    told = told_of(program, claim, found)
    return ("run", lifted(program, told[1])) if told[0] == "run" else told


def folded_book_stands(program, claim, worlds):
    check_claim_or_none(program, claim)
    if not is_book(program, worlds, folded_start(program), lambda world: folded_ahead(program, world)):
        return False
    return all([folded(world)[0] == world for world in worlds]) and has_none_sought(program, claim, worlds)
