"""Worlds, and the moves that lead from one to another."""

from lettermoat.errors import NoMove
from lettermoat.programs import is_from, is_tuple, is_word, role_of
from lettermoat.roads import places_lost, places_taken, put_on, without

MOST_HANDS = 6

# Registers and letters' numbers are reckoned round by this, and so many choices belong to each arm of a wait.
ROUND = 3


def is_letter(value):
    return is_tuple(value, 2, 2) and is_word(value[0]) and is_from(value[1], 0, ROUND - 1)


def is_load(road, value):
    if not isinstance(value, tuple) or not all([is_letter(letter) for letter in value]):
        return False
    if road[1] is not None and len(value) > road[1]:
        return False
    return road[0] == "row" or list(value) == sorted(value)


def is_hand_of(role, value):
    if not is_from(value[1], 0, len(role[2])) or not is_tuple(value[2], role[1], role[1]):
        return False
    return all([is_from(number, 0, ROUND - 1) for number in value[2]])


def is_hand(program, value):
    if not is_tuple(value, 3, 3) or not is_word(value[0]):
        return False
    return any([role[0] == value[0] and is_hand_of(role, value) for role in program[1]])


def is_world(program, value):
    if not is_tuple(value, 2, 2) or not is_tuple(value[0], 1, MOST_HANDS):
        return False
    count = len(program[0])
    if not all([is_hand(program, hand) for hand in value[0]]) or not is_tuple(value[1], count, count):
        return False
    return all([is_load(road, load) for road, load in zip(program[0], value[1])])


def begun(program, name):
    return (name, 0, (0,) * role_of(program, name)[1])


def start_world(program):
    return (tuple([begun(program, name) for name in program[2]]), ((),) * len(program[0]))


def step_at(program, hand):
    steps = role_of(program, hand[0])[2]
    return steps[hand[1]] if hand[1] < len(steps) else None


def stopped(program, hand):
    step = step_at(program, hand)
    return step is None or step[0] == "stop"


def letter_sent(hand, step):
    return (step[2], step[3] if step[0] == "send" else hand[2][step[3]])


def has_room(program, world, hand, step):
    road = step[1]
    return put_on(program[0][road], world[1][road], letter_sent(hand, step)) is not None


# Pairs of a wait's choices and the places of the letters that these take.
def takings(program, world, step):
    letters = world[1][step[1]]
    pairs = []
    for place in places_taken(program[0][step[1]], letters):
        for k, arm in enumerate(step[2:]):
            if arm[0] == letters[place][0]:
                pairs.append((ROUND * k + letters[place][1], place))
    return sorted(pairs)


def choices(program, world, k):
    if not 0 <= k < len(world[0]):
        raise NoMove(f"there is no hand {k}")
    hand = world[0][k]
    if stopped(program, hand):
        return ()
    step = step_at(program, hand)
    if step[0] == "pick":
        return tuple(range(len(step) - 1))
    if step[0] == "wait":
        return tuple([choice for choice, place in takings(program, world, step)])
    if step[0] in ("send", "tell") and not has_room(program, world, hand, step):
        return ()
    if step[0] == "begin" and len(world[0]) >= MOST_HANDS:
        return ()
    return (0,)


def moves(program, world):
    found = []
    for k in range(len(world[0])):
        found.extend([("hand", k, choice) for choice in choices(program, world, k)])
    for road, letters in enumerate(world[1]):
        found.extend([("lose", road, place) for place in places_lost(program[0][road], letters)])
    return tuple(found)


def with_load(world, road, letters):
    loads = world[1]
    return (world[0], loads[:road] + (letters,) + loads[road + 1:])


def with_hand(world, k, hand):
    hands = world[0]
    return (hands[:k] + (hand,) + hands[k + 1:], world[1])


def put_in(numbers, r, number):
    return numbers[:r] + (number,) + numbers[r + 1:]


def hand_behind(hand, step, choice):
    name = hand[0]
    at = hand[1]
    numbers = hand[2]
    if step[0] == "set":
        return (name, at + 1, put_in(numbers, step[1], step[2]))
    if step[0] == "add":
        return (name, at + 1, put_in(numbers, step[1], (numbers[step[1]] + step[2]) % ROUND))
    if step[0] == "if":
        return (name, step[3] if numbers[step[1]] == step[2] else at + 1, numbers)
    if step[0] == "pick":
        return (name, step[1 + choice], numbers)
    return (name, at + 1, numbers)


def place_taken(program, world, step, choice):
    return dict(takings(program, world, step))[choice]


def letter_taken(program, world, k, choice):
    step = step_at(program, world[0][k])
    return world[1][step[1]][place_taken(program, world, step, choice)]


def world_behind_wait(program, world, k, choice):
    hand = world[0][k]
    step = step_at(program, hand)
    letter = letter_taken(program, world, k, choice)
    arm = [arm for arm in step[2:] if arm[0] == letter[0]][0]
    numbers = hand[2] if arm[1] is None else put_in(hand[2], arm[1], letter[1])
    letters = without(world[1][step[1]], place_taken(program, world, step, choice))
    return with_load(with_hand(world, k, (hand[0], arm[2], numbers)), step[1], letters)


def hand_moved(program, world, k, choice):
    hand = world[0][k]
    step = step_at(program, hand)
    if step[0] == "wait":
        return world_behind_wait(program, world, k, choice)
    behind = with_hand(world, k, hand_behind(hand, step, choice))
    if step[0] in ("send", "tell"):
        road = step[1]
        return with_load(behind, road, put_on(program[0][road], world[1][road], letter_sent(hand, step)))
    if step[0] == "begin":
        return (behind[0] + (begun(program, step[1]),), behind[1])
    return behind


def can_be_done(program, world, move):
    if move[0] == "hand":
        return 0 <= move[1] < len(world[0]) and move[2] in choices(program, world, move[1])
    if move[0] != "lose" or not 0 <= move[1] < len(world[1]):
        return False
    return move[2] in places_lost(program[0][move[1]], world[1][move[1]])


def check_move(program, world, move):
    if not can_be_done(program, world, move):
        raise NoMove(f"{move!r} can't be done there")


def moved(program, world, move):
    check_move(program, world, move)
    if move[0] == "hand":
        return hand_moved(program, world, move[1], move[2])
    return with_load(world, move[1], without(world[1][move[1]], move[2]))


# Two loses are never told as apart, nor are two choices of one hand.
def are_of_unlike_doers(one, other):
    return one[0] != other[0] or one[0] == "hand" and one[1] != other[1]


def apart(program, world, one, other):
    behind_one = moved(program, world, one)
    behind_other = moved(program, world, other)
    if not are_of_unlike_doers(one, other):
        return False
    if not can_be_done(program, behind_one, other) or not can_be_done(program, behind_other, one):
        return False
    return moved(program, behind_one, other) == moved(program, behind_other, one)
