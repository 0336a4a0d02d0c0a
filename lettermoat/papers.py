"""Papers, which lead a run to a thinned one by swapping moves and putting some in."""

from lettermoat.books import is_halt
from lettermoat.claims import check_claim_or_none
from lettermoat.errors import NoWitness
from lettermoat.loops import has_move_of
from lettermoat.programs import is_from, is_number, is_tuple
from lettermoat.runs import worlds_from, worlds_of
from lettermoat.thinning import first_hand, goes_first, is_own, thin_moves
from lettermoat.worlds import apart, can_be_done, moved, start_world, step_at


def is_thinned(program, claim, run):
    check_claim_or_none(program, claim)
    worlds = worlds_of(program, run)
    return all([move in thin_moves(program, claim, world) for world, move in zip(worlds, run)])


# The place of the hand's first move from place n on, or None.
def place_of_next(run, n, k):
    for place in range(n, len(run)):
        if has_move_of([run[place]], k):
            return place
    return None


# The entries that bring a thinned move to place n. The hand's step stays as it is till it moves; where it moves no
# more, whichever choice is put in changes nothing for the others. On the way to a halt it always moves.
def entries_at(program, claim, world, run, n):
    k = first_hand(program, claim, world)
    if k is None:
        return []
    place = place_of_next(run, n, k)
    if place is None:
        return [("put", n, ("hand", k, 0))]
    return [("swap", m) for m in range(place - 1, n - 1, -1)]


def turned(run, n):
    return run[:n] + (run[n + 1], run[n]) + run[n + 2:]


def with_one_more(run, n, move):
    return run[:n] + (move,) + run[n:]


def run_behind(run, entry):
    return turned(run, entry[1]) if entry[0] == "swap" else with_one_more(run, entry[1], entry[2])


# Each move put in is of a hand that has no other one left, and leads it to a greater step: so there is an end of them.
def paper_for(program, claim, run):
    check_claim_or_none(program, claim)
    end = worlds_of(program, run)[-1]
    if claim is None and not is_halt(program, end):
        raise NoWitness("the run leads to no halt")
    paper = []
    world = start_world(program)
    led = tuple(run)
    n = 0
    while n < len(led):
        entries = entries_at(program, claim, world, led, n)
        for entry in entries:
            led = run_behind(led, entry)
        paper.extend(entries)
        world = moved(program, world, led[n])
        n += 1
    return tuple(paper)


def is_own_move(program, world, move):
    if move[0] != "hand":
        return False
    return is_own(step_at(program, world[0][move[1]]))


def can_swap(program, run, worlds, n):
    if not is_from(n, 0, len(run) - 2):
        return False
    if not is_own_move(program, worlds[n], run[n]) and not is_own_move(program, worlds[n + 1], run[n + 1]):
        return False
    return can_be_done(program, worlds[n], run[n + 1]) and apart(program, worlds[n], run[n], run[n + 1])


def is_hands_move(value):
    return is_tuple(value, 3, 3) and value[0] == "hand" and is_number(value[1]) and is_number(value[2])


def can_put(program, claim, run, worlds, n, move):
    if claim is None or not is_from(n, 0, len(run)) or not is_hands_move(move):
        return False
    if not can_be_done(program, worlds[n], move) or has_move_of(run[n:], move[1]):
        return False
    return goes_first(program, claim, worlds[n][0][move[1]])


def is_entry(program, claim, run, worlds, entry):
    if is_tuple(entry, 2, 2) and entry[0] == "swap":
        return can_swap(program, run, worlds, entry[1])
    if is_tuple(entry, 3, 3) and entry[0] == "put":
        return can_put(program, claim, run, worlds, entry[1], entry[2])
    return False


# Behind a swap one world alone is another; behind a put all that come.
def worlds_behind_entry(program, run, worlds, entry):
    n = entry[1]
    if entry[0] == "swap":
        return worlds[:n + 1] + (moved(program, worlds[n], run[n]),) + worlds[n + 2:]
    return worlds[:n] + worlds_from(program, worlds[n], run[n:])


def led_by(program, claim, run, paper):
    check_claim_or_none(program, claim)
    worlds = worlds_of(program, run)
    led = tuple(run)
    for place, entry in enumerate(paper):
        if not is_entry(program, claim, led, worlds, entry):
            raise NoWitness(f"entry {place} of the paper is not one for the run by then")
        led = run_behind(led, entry)
        worlds = worlds_behind_entry(program, led, worlds, entry)
    return led
