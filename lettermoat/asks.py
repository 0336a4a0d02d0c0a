"""Asks about a program, written as lines, their answers, and reports of programs."""

from lettermoat.books import halt_told, never_told
from lettermoat.claims import claim_of, split_outside_brackets
from lettermoat.errors import NoClaim, NoText, NoWorlds, TooMany
from lettermoat.floors import wide_roads
from lettermoat.folding import folded_told
from lettermoat.graphs import all_worlds
from lettermoat.leads import leads_told
from lettermoat.moats import moat_told
from lettermoat.runs import run_text
from lettermoat.texts import program_of
from lettermoat.thinning import thinned_told

MOST_WORLDS = 600
MOST_FLOORS = 300


# An ask is read as a tuple of its word and its claims.
def ask_of(line):
    parts = split_outside_brackets(line)
    if parts == ["halt"]:
        return ("halt",)
    if len(parts) == 2 and parts[0] in ("never", "folded", "thinned", "moat"):
        return (parts[0], claim_of(parts[1]))
    if len(parts) == 4 and parts[0] == "leads" and parts[2] == "to":
        return ("leads", None if parts[1] == "any" else claim_of(parts[1]), claim_of(parts[3]))
    raise NoText(f"{line!r} is no ask")


def told_of_ask(program, ask):
    if ask[0] == "halt":
        return halt_told(program, MOST_WORLDS)
    if ask[0] == "never":
        return never_told(program, ask[1], MOST_WORLDS)
    if ask[0] == "folded":
        return folded_told(program, ask[1], MOST_WORLDS)
    if ask[0] == "thinned":
        return thinned_told(program, ask[1], MOST_WORLDS)
    if ask[0] == "moat":
        return moat_told(program, ask[1], MOST_FLOORS)
    return leads_told(program, ask[1], ask[2], MOST_WORLDS)


# Of a book or a moat its last part is counted: of leads these are the entries.
def told_text(told):
    word = told[0]
    if word == "run":
        run = run_text(told[1])
        return f"run {run}"
    if word == "lasso":
        stem = run_text(told[1])
        loop = run_text(told[2])
        return f"lasso {stem} then {loop}"
    count = len(told[-1])
    return f"{word} {count}"


def answer_of_ask(program, ask):
    try:
        return told_text(told_of_ask(program, ask))
    except NoClaim:
        return "refused NoClaim"
    except NoWorlds:
        return "refused NoWorlds"
    except TooMany:
        return "refused TooMany"


def answer(program, line):
    return answer_of_ask(program, ask_of(line))


def role_line(program, role):
    name = role[0]
    steps = len(role[2])
    hands = program[2].count(name)
    return f"role {name} steps {steps} hands {hands}"


def worlds_line(program):
    try:
        count = len(all_worlds(program, MOST_WORLDS))
    except NoWorlds:
        return "worlds many"
    except TooMany:
        return "worlds many"
    return f"worlds {count}"


def report(text, asks):
    program = program_of(text)
    read = [ask_of(line) for line in asks]
    roads = len(program[0])
    wide = len(wide_roads(program))
    lines = [f"roads {roads}", f"wide {wide}"]
    lines.extend([role_line(program, role) for role in program[1]])
    lines.append(worlds_line(program))
    for line, ask in zip(asks, read):
        lines.append(line)
        lines.append(answer_of_ask(program, ask))
    return "\n".join(lines)
