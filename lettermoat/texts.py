"""Programs and their steps as texts: just what is written is read back."""

from lettermoat.errors import NoText
from lettermoat.programs import is_program, is_word, part_sorts

FIGURES = "0123456789"

# Lines of a lesser rank stand ahead of those of a greater one; steps have the rank of roles.
LINE_RANKS = {"road": 0, "role": 1, "hand": 2}
STEP_RANK = 1


def number_of(text):
    if not 1 <= len(text) <= 9 or not all([sign in FIGURES for sign in text]):
        raise NoText(f"{text!r} is not a number of 1 to 9 figures")
    if text[0] == "0" and len(text) > 1:
        raise NoText(f"{text!r} has a needless nought")
    return int(text)


def word_of(text):
    if not is_word(text):
        raise NoText(f"{text!r} is not a word")
    return text


def arm_text(arm):
    kind = arm[0]
    place = "." if arm[1] is None else str(arm[1])
    step = str(arm[2])
    return f"{kind}:{place}:{step}"


def arm_of(text):
    parts = text.split(":")
    if len(parts) != 3:
        raise NoText(f"{text!r} is not an arm of a wait")
    place = None if parts[1] == "." else number_of(parts[1])
    return (word_of(parts[0]), place, number_of(parts[2]))


def part_text(part):
    return arm_text(part) if isinstance(part, tuple) else str(part)


def part_of(text, sort):
    if sort == "arm":
        return arm_of(text)
    if sort in ("kind", "role"):
        return word_of(text)
    return number_of(text)


def step_text(step):
    return " ".join([part_text(part) for part in step])


def step_of(line):
    words = line.split(" ")
    sorts = part_sorts(words[0], len(words) - 1)
    if sorts is None:
        raise NoText(f"{line!r} is not a step")
    return (words[0],) + tuple([part_of(text, sort) for text, sort in zip(words[1:], sorts)])


def road_text(road):
    order = road[0]
    most = "wide" if road[1] is None else str(road[1])
    end = " loses" if road[2] else ""
    return f"road {order} {most}{end}"


def road_of(words):
    if len(words) != 3 and (len(words) != 4 or words[3] != "loses"):
        raise NoText("a line of a road has an order, how many letters it holds, and maybe: loses")
    most = None if words[2] == "wide" else number_of(words[2])
    return (word_of(words[1]), most, len(words) == 4)


def role_lines(role):
    name = role[0]
    many = str(role[1])
    return [f"role {name} {many}"] + [step_text(step) for step in role[2]]


def role_head_of(words):
    if len(words) != 3:
        raise NoText("a line of a role has its name and how many registers")
    return (word_of(words[1]), number_of(words[2]))


def hand_of(words):
    if len(words) != 2:
        raise NoText("a line of a hand has the name of a role")
    return word_of(words[1])


def program_text(program):
    lines = [road_text(road) for road in program[0]]
    for role in program[1]:
        lines.extend(role_lines(role))
    lines.extend([f"hand {name}" for name in program[2]])
    return "\n".join(lines)


def check_order(lines):
    ranks = [LINE_RANKS.get(line.split(" ")[0], STEP_RANK) for line in lines]
    for k in range(len(ranks) - 1):
        if ranks[k] > ranks[k + 1]:
            raise NoText("roads come first, then roles with their steps, then hands")


def program_of(text):
    lines = text.split("\n")
    check_order(lines)
    roads = []
    heads = []
    bodies = []
    hands = []
    for line in lines:
        words = line.split(" ")
        if words[0] == "road":
            roads.append(road_of(words))
        elif words[0] == "role":
            heads.append(role_head_of(words))
            bodies.append([])
        elif words[0] == "hand":
            hands.append(hand_of(words))
        elif bodies:
            bodies[-1].append(step_of(line))
        else:
            raise NoText("a step stands ahead of the first role")
    roles = [head + (tuple(body),) for head, body in zip(heads, bodies)]
    program = (tuple(roads), tuple(roles), tuple(hands))
    if not is_program(program):
        raise NoText("the lines make no program")
    return program
