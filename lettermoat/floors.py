"""Floors, which are worlds with wide roads empty, the moves among them, and words: what lies on the wide roads."""

from lettermoat.graphs import found_from
from lettermoat.programs import sent_on
from lettermoat.worlds import ROUND, choices, letter_sent, moved, moves, put_in, start_world, step_at, with_load


def wide_roads(program):
    return tuple([number for number, road in enumerate(program[0]) if road[1] is None])


def floor_of(program, world):
    floor = world
    for road in wide_roads(program):
        floor = with_load(floor, road, ())
    return floor


def words_of(program, world):
    return tuple([world[1][road] for road in wide_roads(program)])


# The wide road on which the hand's step sends or from which it takes, or None.
def wide_road_at(program, hand):
    step = step_at(program, hand)
    if step is None or step[0] not in ("send", "tell", "wait") or step[1] not in wide_roads(program):
        return None
    return step[1]


def triples_of_hand(program, world, k, letter):
    triples = []
    for choice in choices(program, world, k):
        move = ("hand", k, choice)
        triples.append((move, letter, floor_of(program, moved(program, world, move))))
    return triples


# A letter that may come to lie on the road is put there for the time of the move.
def triples_of_wait(program, floor, k, road):
    triples = []
    for letter in sent_on(program, road):
        triples.extend(triples_of_hand(program, with_load(floor, road, (letter,)), k, letter))
    return triples


def floor_moves(program, floor):
    triples = []
    for k, hand in enumerate(floor[0]):
        road = wide_road_at(program, hand)
        step = step_at(program, hand)
        if road is None:
            triples.extend(triples_of_hand(program, floor, k, None))
        elif step[0] == "wait":
            triples.extend(triples_of_wait(program, floor, k, road))
        else:
            triples.extend(triples_of_hand(program, floor, k, letter_sent(hand, step)))
    for move in moves(program, floor):
        if move[0] == "lose":
            triples.append((move, None, moved(program, floor, move)))
    return tuple(triples)


def floors_ahead(program, floor):
    return [(move, behind) for move, letter, behind in floor_moves(program, floor)]


def floors(program, most):
    starts = (start_world(program),)
    return tuple(sorted(found_from(starts, lambda floor: floors_ahead(program, floor), most)))


def letter_of_choice(step, choice):
    return (step[2 + choice // ROUND][0], choice % ROUND)


def word_before(hand, step, choice, word):
    if step[0] == "wait":
        return (letter_of_choice(step, choice),) + word
    return word[:-1] if word[-1:] == (letter_sent(hand, step),) else word


def before(program, floor, move, words):
    if move[0] == "lose":
        return words
    hand = floor[0][move[1]]
    road = wide_road_at(program, hand)
    if road is None:
        return words
    place = wide_roads(program).index(road)
    return put_in(words, place, word_before(hand, step_at(program, hand), move[2], words[place]))
