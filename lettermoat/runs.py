"""Runs: moves done one behind the other, as worlds, as texts, as stories, and what they show."""

from lettermoat.errors import NoText
from lettermoat.texts import number_of
from lettermoat.worlds import letter_sent, letter_taken, moved, start_world, step_at


def worlds_from(program, world, run):
    worlds = [world]
    for move in run:
        worlds.append(moved(program, worlds[-1], move))
    return tuple(worlds)


def worlds_of(program, run):
    return worlds_from(program, start_world(program), run)


def end_of(program, world, run):
    return worlds_from(program, world, run)[-1]


def move_text(move):
    sign = "!" if move[0] == "lose" else ""
    first = move[1]
    second = move[2]
    return f"{sign}{first}.{second}"


def move_of(text):
    word = "lose" if text.startswith("!") else "hand"
    numbers = text[1:] if word == "lose" else text
    parts = numbers.split(".")
    if len(parts) != 2:
        raise NoText(f"{text!r} is not a move")
    return (word, number_of(parts[0]), number_of(parts[1]))


def run_text(run):
    return " ".join([move_text(move) for move in run]) if run else "-"


def run_of(text):
    if text == "-":
        return ()
    return tuple([move_of(word) for word in text.split(" ")])


def letter_text(letter):
    kind = letter[0]
    number = letter[1]
    return f"{kind} {number}"


def deed_text(program, world, k, choice):
    hand = world[0][k]
    step = step_at(program, hand)
    word = step[0]
    if word in ("send", "tell"):
        letter = letter_text(letter_sent(hand, step))
        road = step[1]
        return f"sends {letter} on {road}"
    if word == "wait":
        letter = letter_text(letter_taken(program, world, k, choice))
        road = step[1]
        return f"takes {letter} from {road}"
    if word == "begin":
        name = step[1]
        return f"begins {name}"
    return word


def happening_text(program, world, move):
    doer = move[1]
    if move[0] == "lose":
        letter = letter_text(world[1][doer][move[2]])
        return f"road {doer} loses {letter}"
    name = world[0][doer][0]
    deed = deed_text(program, world, doer, move[2])
    return f"{name} {doer} {deed}"


def story(program, run):
    lines = []
    worlds = worlds_of(program, run)
    for count, move in enumerate(run):
        happening = happening_text(program, worlds[count], move)
        lines.append(f"{count} {happening}")
    return "\n".join(lines)


# The letter that the move sends on one of these roads, with its road, or None.
def letter_shown(program, world, move, roads):
    if move[0] == "lose":
        return None
    hand = world[0][move[1]]
    step = step_at(program, hand)
    if step[0] not in ("send", "tell") or step[1] not in roads:
        return None
    return (step[1],) + letter_sent(hand, step)


def shown(program, run, roads):
    worlds = worlds_of(program, run)
    triples = [letter_shown(program, world, move, roads) for world, move in zip(worlds, run)]
    return tuple([triple for triple in triples if triple is not None])
