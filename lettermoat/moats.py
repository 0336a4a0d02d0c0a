"""Moats, which show that a claim that grows never holds on roads of any length, and runs that show the contrary."""

from lettermoat.claims import check_claim, grows, is_so, ons_of
from lettermoat.errors import NoClaim, TooMany
from lettermoat.floors import before, floor_moves, floor_of, floors, words_of
from lettermoat.floors import letter_of_choice, wide_road_at, wide_roads
from lettermoat.programs import rises, sent_on
from lettermoat.roads import all_within, has_one_within, leasts
from lettermoat.worlds import is_world, moved, start_world, step_at, with_load


def check_growing(program, claim):
    check_claim(program, claim)
    if not grows(claim):
        raise NoClaim(f"{claim!r} does not grow")


def in_moat(program, moat, world):
    floor = floor_of(program, world)
    words = words_of(program, world)
    for place, rows in moat:
        if place == floor:
            return has_one_within(rows, words)
    return None


def some_of(values):
    rows = [[]]
    for value in values:
        rows = rows + [row + [value] for row in rows]
    return rows


def kinds_needed(ons, road):
    counts = {}
    for on in ons:
        if on[1] == road:
            counts[on[2]] = max(on[3], counts.get(on[2], 0))
    kinds = []
    for kind in counts:
        kinds.extend([kind] * counts[kind])
    return kinds


# All rows of letters, one of each of these kinds, in whatever order.
def rows_of_kinds(letters, kinds):
    if not kinds:
        return [()]
    rows = []
    for kind in sorted(set(kinds)):
        others = list(kinds)
        others.remove(kind)
        ends = rows_of_kinds(letters, others)
        for letter in letters:
            if letter[0] == kind:
                rows.extend([(letter,) + end for end in ends])
    return rows


def words_with(program, ons):
    found = [()]
    for road in wide_roads(program):
        rows = rows_of_kinds(sent_on(program, road), kinds_needed(ons, road))
        longer = []
        for words in found:
            longer.extend([words + (row,) for row in rows])
        found = longer
    return found


# Whether a claim holds on a floor hangs on which of its ons do: so these words are all that can be least.
def words_that_count(program, claim):
    found = []
    for ons in some_of([on for on in ons_of(claim) if on[1] in wide_roads(program)]):
        found.extend(words_with(program, ons))
    return found


def with_words(program, floor, words):
    world = floor
    for road, word in zip(wide_roads(program), words):
        world = with_load(world, road, word)
    return world


# Most floors share their words, and looking for the leasts is the dear part: it is done once for the like.
def held_by_floor(program, places, claim):
    counting = words_that_count(program, claim)
    known = {}
    held = {}
    for floor in places:
        rows = tuple([words for words in counting if is_so(with_words(program, floor, words), claim)])
        if rows not in known:
            known[rows] = leasts(rows)
        held[floor] = known[rows]
    return held


def words_held(program, floor, claim):
    check_growing(program, claim)
    return held_by_floor(program, (floor,), claim)[floor]


# What is led to the fresh words of a round, and wasn't in the round.
def led_back(program, ways, held, fresh):
    found = {}
    for floor in held:
        rows = []
        for move, letter, behind in ways[floor]:
            rows.extend([before(program, floor, move, words) for words in fresh[behind]])
        found[floor] = leasts(tuple([row for row in rows if not has_one_within(held[floor], row)]))
    return found


def next_round(held, fresh):
    found = {}
    for floor in held:
        kept = [row for row in held[floor] if not has_one_within(fresh[floor], row)]
        found[floor] = tuple(sorted(kept + list(fresh[floor])))
    return found


def count_of_leasts(held):
    return sum([len(rows) for rows in held.values()])


def start_is_in(program, held):
    start = start_world(program)
    return has_one_within(held[start], words_of(program, start))


# Only what was fresh in a round can lead to something new in the next.
def rounds_of(program, claim, most):
    places = floors(program, most)
    ways = dict([(floor, floor_moves(program, floor)) for floor in places])
    rounds = [held_by_floor(program, places, claim)]
    fresh = rounds[0]
    while count_of_leasts(fresh) > 0:
        if count_of_leasts(rounds[-1]) > 4 * most:
            raise TooMany(f"a round has more than four times {most} leasts")
        if start_is_in(program, rounds[-1]):
            return rounds
        fresh = led_back(program, ways, rounds[-1], fresh)
        rounds.append(next_round(rounds[-1], fresh))
    return rounds


def move_into_round(program, held, world):
    floor = floor_of(program, world)
    for move, letter, behind in floor_moves(program, floor):
        for words in held[behind]:
            if all_within(before(program, floor, move, words), words_of(program, world)):
                return move
    return None


# A letter that is to be taken from a wide road may have others ahead of it: these are lost first.
def loses_ahead_of(program, world, move):
    if move[0] == "lose":
        return []
    hand = world[0][move[1]]
    road = wide_road_at(program, hand)
    step = step_at(program, hand)
    if road is None or step[0] != "wait":
        return []
    return [("lose", road, 0)] * world[1][road].index(letter_of_choice(step, move[2]))


# The start is in the last round and in none ahead of it: so a move leads from round to round back to the first, in
# which the claim holds.
def run_through(program, rounds):
    run = []
    world = start_world(program)
    for held in reversed(rounds[:-1]):
        move = move_into_round(program, held, world)
        for each in loses_ahead_of(program, world, move) + [move]:
            run.append(each)
            world = moved(program, world, each)
    return tuple(run)


def moat_told(program, claim, most):
    check_growing(program, claim)
    rounds = rounds_of(program, claim, most)
    if start_is_in(program, rounds[-1]):
        return ("run", run_through(program, rounds))
    return ("moat", tuple(sorted(rounds[-1].items())))


def are_words(program, value):
    roads = wide_roads(program)
    if not isinstance(value, tuple) or len(value) != len(roads):
        return False
    for road, word in zip(roads, value):
        letters = sent_on(program, road)
        if not isinstance(word, tuple) or not all([letter in letters for letter in word]):
            return False
    return True


def is_moat(program, moat):
    places = [floor for floor, rows in moat]
    if not all([is_world(program, floor) and floor_of(program, floor) == floor for floor in places]):
        return False
    if not rises(places):
        return False
    for floor, rows in moat:
        if not all([are_words(program, words) for words in rows]) or leasts(rows) != rows:
            return False
    return True


# What lies outside is to be kept from as from what is in it, with whatever words.
def keeps_in(program, floor, held):
    for move, letter, behind in floor_moves(program, floor):
        for words in held.get(behind, (((),) * len(wide_roads(program)),)):
            if not has_one_within(held[floor], before(program, floor, move, words)):
                return False
    return True


def moat_stands(program, claim, moat):
    check_growing(program, claim)
    if not is_moat(program, moat):
        return False
    held = dict(moat)
    if start_world(program) not in held or start_is_in(program, held):
        return False
    needed = held_by_floor(program, tuple(held), claim)
    for floor in held:
        if not all([has_one_within(held[floor], words) for words in needed[floor]]):
            return False
        if not keeps_in(program, floor, held):
            return False
    return True
