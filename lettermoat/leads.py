"""Whether P leads to Q, told with a book of ranks and helpers, or with a lasso that shows the contrary."""

from lettermoat.books import is_plain_book
from lettermoat.claims import check_claim, check_claim_or_none, is_so
from lettermoat.graphs import ahead, found_from, found_worlds, way_back
from lettermoat.knots import all_left, fair_loop, helper_of, is_bare, knots_of
from lettermoat.loops import can_move, is_with
from lettermoat.programs import rises


def check_both(program, p, q):
    check_claim_or_none(program, p)
    check_claim(program, q)


def begins_open(world, p, q):
    return is_with(world, p) and not is_so(world, q)


def ahead_without(program, world, q):
    return [(move, behind) for move, behind in ahead(program, world) if not is_so(behind, q)]


# The open worlds, each with the way to it from one with P.
def found_open(program, p, q, found):
    starts = [world for world in found if begins_open(world, p, q)]
    return found_from(starts, lambda world: ahead_without(program, world, q), None)


def open_worlds(program, p, q, most):
    check_both(program, p, q)
    return tuple(sorted(found_open(program, p, q, found_worlds(program, most))))


# For each knot the numbers of those to which a move leads from it, itself left out.
def knots_ahead(program, knots):
    numbers = {}
    for number, knot in enumerate(knots):
        for world in knot:
            numbers[world] = number
    rows = []
    for number, knot in enumerate(knots):
        row = {}
        for world in knot:
            for move, behind in ahead(program, world):
                if numbers.get(behind, number) != number:
                    row[numbers[behind]] = True
        rows.append(list(row))
    return rows


# A knot is left for good when all to which it leads have been: so their ranks are there when its own is reckoned.
def ranks_of(program, knots):
    rows = knots_ahead(program, knots)
    ranks = {}
    for number in all_left(rows):
        ranks[number] = max([ranks[behind] + 1 for behind in rows[number]], default=0)
    return ranks


def source_of(found, world):
    place = world
    while found[place] is not None:
        place = found[place][1]
    return place


# A bare knot without a helper is a world that rests.
def lasso_into(program, found, opened, knot):
    pair = (knot[0], ()) if is_bare(program, knot) else fair_loop(program, knot)
    stem = way_back(found, source_of(opened, pair[0])) + way_back(opened, pair[0])
    return ("lasso", stem, pair[1])


def leads_told(program, p, q, most):
    check_both(program, p, q)
    found = found_worlds(program, most)
    opened = found_open(program, p, q, found)
    knots = knots_of(program, tuple(sorted(opened)))
    ranks = ranks_of(program, knots)
    entries = []
    for number, knot in enumerate(knots):
        helper = helper_of(program, knot)
        if helper is None:
            return lasso_into(program, found, opened, knot)
        entries.extend([(world, ranks[number], helper) for world in knot])
    return ("book", tuple(sorted(found)), tuple(sorted(entries)))


# known tells rank and helper of each world with an entry.
def goes_on(known, world, move, behind, q):
    if is_so(behind, q):
        return True
    if behind not in known:
        return False
    if known[behind][0] < known[world][0]:
        return True
    return known[behind] == known[world] and move[:2] != ("hand", known[world][1])


def entry_stands(program, known, world, q):
    helper = known[world][1]
    if is_so(world, q) or not 0 <= helper < len(world[0]) or not can_move(program, world, helper):
        return False
    return all([goes_on(known, world, move, behind, q) for move, behind in ahead(program, world)])


def leads_book_stands(program, p, q, worlds, entries):
    check_both(program, p, q)
    if not is_plain_book(program, worlds) or not rises([entry[0] for entry in entries]):
        return False
    known = dict([(world, (rank, helper)) for world, rank, helper in entries])
    if not all([world in known for world in worlds if begins_open(world, p, q)]):
        return False
    listed = dict([(world, True) for world in worlds])
    return all([world in listed and entry_stands(program, known, world, q) for world in known])
