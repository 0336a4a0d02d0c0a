"""Thinned moves, by which needless weavings of hands' own steps are left out, and books and runs of them."""

from lettermoat.books import has_none_sought, is_book, told_of
from lettermoat.claims import check_claim_or_none, plains_of
from lettermoat.graphs import check_not_wide, found_from
from lettermoat.programs import role_of
from lettermoat.worlds import choices, moved, moves, start_world, step_at


def is_own(step):
    return step[0] in ("set", "add", "if", "pick")


# The steps to which an own step, which is number s, may lead.
def steps_behind(step, s):
    if step[0] == "pick":
        return step[1:]
    return (step[3], s + 1) if step[0] == "if" else (s + 1,)


def is_rising(program, role, s):
    step = role_of(program, role)[2][s]
    return all([behind > s for behind in steps_behind(step, s)])


def plain_sees(plain, role, step, s):
    if plain[0] == "at":
        return plain[1] == role and (plain[2] == s or plain[2] in steps_behind(step, s))
    return plain[0] == "has" and plain[1] == role and step[0] in ("set", "add") and plain[2] == step[1]


def is_seen(program, claim, role, s):
    if claim is None:
        return False
    step = role_of(program, role)[2][s]
    return any([plain_sees(plain, role, step, s) for plain in plains_of(claim)])


def sees(program, claim, role, s):
    check_claim_or_none(program, claim)
    return is_seen(program, claim, role, s)


# Whether the hand may go ahead of all others: its step is its own, rising and not seen.
def goes_first(program, claim, hand):
    step = step_at(program, hand)
    if step is None or not is_own(step) or not is_rising(program, hand[0], hand[1]):
        return False
    return not is_seen(program, claim, hand[0], hand[1])


# The least hand that goes ahead of all others, or None.
def first_hand(program, claim, world):
    for k, hand in enumerate(world[0]):
        if goes_first(program, claim, hand):
            return k
    return None


# As thinned_moves, but the claim has been looked at.
def thin_moves(program, claim, world):
    k = first_hand(program, claim, world)
    if k is None:
        return moves(program, world)
    return tuple([("hand", k, choice) for choice in choices(program, world, k)])


def thinned_moves(program, claim, world):
    check_claim_or_none(program, claim)
    return thin_moves(program, claim, world)


def thinned_ahead(program, claim, world):
    return [(move, moved(program, world, move)) for move in thin_moves(program, claim, world)]


def thinned_told(program, claim, most):
    check_claim_or_none(program, claim)
    check_not_wide(program)
    found = found_from((start_world(program),), lambda world: thinned_ahead(program, claim, world), most)
    return told_of(program, claim, found)


def thinned_book_stands(program, claim, worlds):
    check_claim_or_none(program, claim)
    start = start_world(program)
    if not is_book(program, worlds, start, lambda world: thinned_ahead(program, claim, world)):
        return False
    return has_none_sought(program, claim, worlds)
