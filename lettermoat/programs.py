"""Programs: tuples (roads, roles, hands), what is one, and what can be read off one."""

from lettermoat.errors import NoProgram

SMALL_LETTERS = "abcdefghijklmnopqrstuvwxyz"

# What a hand's registers and a letter's number may be.
NUMBERS = (0, 1, 2)

# The sorts of a step's parts: r a register, n a number, s a step, and road, kind, role, arm by name.
# A pick and a wait are not here: how many parts they have is not settled by their word.
STEP_PARTS = {
    "set": ("r", "n"),
    "add": ("r", "n"),
    "if": ("r", "n", "s"),
    "send": ("road", "kind", "n"),
    "tell": ("road", "kind", "r"),
    "begin": ("role",),
    "stop": (),
}


def is_number(value):
    return isinstance(value, int) and not isinstance(value, bool)


def is_from(value, least, most):
    return is_number(value) and least <= value <= most


def is_word(value):
    if not isinstance(value, str) or not 1 <= len(value) <= 8:
        return False
    return all([sign in SMALL_LETTERS for sign in value])


def is_tuple(value, least, most):
    return isinstance(value, tuple) and least <= len(value) <= most


def rises(values):
    return all([values[k] < values[k + 1] for k in range(len(values) - 1)])


def part_sorts(word, count):
    # None where no step of this word has so many parts.
    if word == "pick":
        return ("s",) * count if 1 <= count <= 3 else None
    if word == "wait":
        return ("road",) + ("arm",) * (count - 1) if 2 <= count <= 4 else None
    sorts = STEP_PARTS.get(word)
    return sorts if sorts is not None and len(sorts) == count else None


def is_arm(value, limits):
    if not is_tuple(value, 3, 3) or not is_word(value[0]):
        return False
    return (value[1] is None or is_part(value[1], "r", limits)) and is_part(value[2], "s", limits)


def is_part(value, sort, limits):
    if sort == "kind":
        return is_word(value)
    if sort == "role":
        return is_word(value) and value in limits["role"]
    if sort == "arm":
        return is_arm(value, limits)
    return is_from(value, 0, limits[sort])


def is_step(value, limits):
    if not isinstance(value, tuple) or len(value) == 0 or not isinstance(value[0], str):
        return False
    sorts = part_sorts(value[0], len(value) - 1)
    if sorts is None:
        return False
    if not all([is_part(part, sort, limits) for part, sort in zip(value[1:], sorts)]):
        return False
    if value[0] == "pick":
        return rises(value[1:])
    if value[0] == "wait":
        return rises([arm[0] for arm in value[2:]])
    return True


def is_road(value):
    if not is_tuple(value, 3, 3):
        return False
    order = value[0]
    most = value[1]
    loses = value[2]
    if not isinstance(order, str) or order not in ("row", "heap"):
        return False
    if loses is not True and loses is not False:
        return False
    if most is None:
        return order == "row" and loses
    return is_from(most, 1, 3)


# What can be told of a role by itself; its steps may name other roles.
def is_role_head(value):
    return is_tuple(value, 3, 3) and is_word(value[0]) and is_from(value[1], 0, 2) and is_tuple(value[2], 1, 12)


def has_good_steps(role, roads, names):
    limits = {"r": role[1] - 1, "n": NUMBERS[-1], "s": len(role[2]), "road": len(roads) - 1, "role": names}
    return all([is_step(step, limits) for step in role[2]])


def is_program(value):
    if not is_tuple(value, 3, 3):
        return False
    roads = value[0]
    roles = value[1]
    hands = value[2]
    if not is_tuple(roads, 0, 4) or not is_tuple(roles, 1, 4) or not is_tuple(hands, 1, 4):
        return False
    if not all([is_road(road) for road in roads]) or not all([is_role_head(role) for role in roles]):
        return False
    names = [role[0] for role in roles]
    if len(set(names)) < len(names):
        return False
    if not all([is_word(hand) and hand in names for hand in hands]):
        return False
    return all([has_good_steps(role, roads, names) for role in roles])


def role_of(program, name):
    for role in program[1]:
        if role[0] == name:
            return role
    raise NoProgram(f"the program has no role {name!r}")


def is_wide(program):
    return any([road[1] is None for road in program[0]])


def letters_of_step(step):
    if step[0] == "send":
        return [(step[2], step[3])]
    if step[0] == "tell":
        return [(step[2], number) for number in NUMBERS]
    return []


def sent_on(program, road):
    letters = {}
    for role in program[1]:
        for step in role[2]:
            if step[0] in ("send", "tell") and step[1] == road:
                for letter in letters_of_step(step):
                    letters[letter] = True
    return tuple(sorted(letters))
