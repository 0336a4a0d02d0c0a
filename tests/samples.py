"""Programs, ways to make programs, and values of odd kinds, that several tests use."""

import itertools
import random

from lettermoat.errors import TooMany
from lettermoat.graphs import all_worlds
from lettermoat.programs import is_program, sent_on
from lettermoat.texts import program_of
from lettermoat.worlds import moved, moves, start_world, stopped

WAY = ("row", 2, False)
WIDE = ("row", None, True)


def tuples_all_down(value):
    if isinstance(value, tuple):
        return all(tuples_all_down(part) for part in value)
    return value is None or isinstance(value, (bool, int, str))


class Awkward:
    """Fails at whatever it is asked."""

    def fail(self, *others):
        raise RuntimeError("asked")

    __eq__ = __ne__ = __lt__ = __gt__ = __le__ = __ge__ = __len__ = __iter__ = __bool__ = fail
    __getitem__ = __contains__ = __hash__ = __int__ = __index__ = __str__ = __repr__ = fail


def nest(depth):
    value = ()
    for k in range(depth):
        value = (value,)
    return value


def odd_values():
    """Values that are no world, no claim and no part of either."""
    return [
        None, True, False, -1, 13, 10 ** 400, 1.0, float("nan"), "", "A", "abcdefghi", "a b", "\u00e9", b"a", [], {},
        set(), frozenset(), object, object(), Ellipsis, range(1), iter(()), lambda: None, (None,), ((), (), (), ()),
        nest(5000), Awkward(),
    ]


def spoilings(value, odd):
    """The value with one of its parts, however deep, put in the place of which the odd one stands."""
    yield odd
    if isinstance(value, tuple):
        for place, part in enumerate(value):
            for spoilt in spoilings(part, odd):
                yield value[:place] + (spoilt,) + value[place + 1:]


def with_steps(*steps, roads=(WAY,), many=2, others=()):
    """A program whose first role has these steps, all else plain."""
    return (roads, (("main", many, steps),) + others, ("main",))


def asker():
    return (
        (("row", 2, False), ("heap", 3, True), ("row", None, True)),
        (
            ("asker", 2, (
                ("set", 0, 1),
                ("add", 1, 2),
                ("if", 0, 1, 4),
                ("pick", 0, 4, 9),
                ("send", 0, "ask", 1),
                ("tell", 2, "note", 1),
                ("wait", 1, ("no", None, 9), ("yes", 1, 0)),
                ("begin", "helper"),
                ("stop",),
            )),
            ("helper", 0, (("wait", 0, ("ask", None, 1)), ("send", 1, "yes", 2))),
        ),
        ("asker", "helper", "asker"),
    )


ASKER_TEXT = """road row 2
road heap 3 loses
road row wide loses
role asker 2
set 0 1
add 1 2
if 0 1 4
pick 0 4 9
send 0 ask 1
tell 2 note 1
wait 1 no:.:9 yes:1:0
begin helper
stop
role helper 0
wait 0 ask:.:1
send 1 yes 2
hand asker
hand helper
hand asker"""


# An asker waits for an answer on a heap that may lose it; the helper picks what it answers.
TALK = program_of("""road row 1
road heap 2 loses
role asker 1
send 0 ask 1
wait 1 no:.:0 yes:0:3
stop
role helper 1
wait 0 ask:0:1
pick 2 4
tell 1 yes 0
if 0 1 0
send 1 no 2
hand asker
hand helper""")

# Of TALK: what never holds, what can hold, and what is no claim.
NEVER = ("at", "asker", 2, 1)
SOME_TIME = ("at", "asker", 3, 1)

NO_CLAIMS = (
    None, (), "at(asker 0 1)", ("at", "asker", 4, 1), ("at", "nobody", 0, 1), ("has", "asker", 1, 0, 1),
    ("on", 3, "yes", 1), ("and",), ("not", SOME_TIME, SOME_TIME), ("or", SOME_TIME, None),
    ("not", ("not", ("not", ("not", SOME_TIME)))), ("and",) + (("on", 0, "ask", 1),) * 3,
)


def random_step(rng, roads, many, count, names):
    words = ["if", "set", "add"] * (many > 0) + ["send", "wait", "wait"] * (roads > 0) + ["pick", "begin", "stop"]
    words += ["send", "tell"] * (roads > 0 and many > 0)
    word = rng.choice(words)
    r = rng.randrange(max(many, 1))
    road = rng.randrange(max(roads, 1))
    n = rng.randrange(3)
    if word == "if":
        return (word, r, n, rng.randrange(count + 1))
    if word in ("set", "add"):
        return (word, r, n)
    if word == "send":
        return (word, road, rng.choice("ab"), rng.randrange(2))
    if word == "tell":
        return (word, road, rng.choice("ab"), r)
    if word == "wait":
        kinds = sorted(rng.sample("abc", rng.randint(1, 3)))
        places = [None] + list(range(many))
        return (word, road) + tuple((kind, rng.choice(places), rng.randrange(count + 1)) for kind in kinds)
    if word == "pick":
        return (word,) + tuple(sorted(rng.sample(range(count + 1), rng.randint(1, min(3, count + 1)))))
    return (word, rng.choice(names)) if word == "begin" else (word,)


def random_program(rng, wide=False, most_steps=5):
    roads = [(rng.choice(["row", "heap"]), rng.randint(1, 2), rng.random() < 0.3) for k in range(rng.randint(0, 2))]
    if wide:
        roads.insert(rng.randint(0, len(roads)), ("row", None, True))
    names = rng.sample(["p", "q", "r"], rng.randint(1, 2))
    roles = []
    for name in names:
        many = rng.randint(0, 2)
        count = rng.randint(1, most_steps)
        steps = tuple(random_step(rng, len(roads), many, count, names) for k in range(count))
        roles.append((name, many, steps))
    program = (tuple(roads), tuple(roles), tuple(rng.choice(names) for k in range(rng.randint(1, 3))))
    assert is_program(program), program
    return program


def small_programs(seed, count, most):
    """So many random programs with all their worlds, of which there are no more than told."""
    rng = random.Random(seed)
    found = []
    while len(found) < count:
        program = random_program(rng, most_steps=4)
        try:
            found.append((program, all_worlds(program, most)))
        except TooMany:
            pass
    return found


def random_run(rng, program, most):
    run = []
    world = start_world(program)
    for k in range(most):
        found = moves(program, world)
        if not found:
            break
        run.append(rng.choice(found))
        world = moved(program, world, run[-1])
    return tuple(run)


def is_halt(program, world):
    return not moves(program, world) and any(not stopped(program, hand) for hand in world[0])


def random_plain(rng, program):
    role = rng.choice(program[1])
    words = ["at"] + ["has"] * (role[1] > 0) + ["on"] * (len(program[0]) > 0)
    word = rng.choice(words)
    if word == "at":
        return (word, role[0], rng.randint(0, len(role[2])), rng.randint(1, 2))
    if word == "has":
        return (word, role[0], rng.randrange(role[1]), rng.randrange(3), rng.randint(1, 2))
    return (word, rng.randrange(len(program[0])), rng.choice("abc"), rng.randint(1, 2))


def random_claim(rng, program, deep=4):
    word = rng.choice(["plain", "and", "or", "not"]) if deep > 1 else "plain"
    if word == "plain":
        return random_plain(rng, program)
    count = 1 if word == "not" else rng.randint(1, 3)
    return (word,) + tuple(random_claim(rng, program, deep - 1) for k in range(count))


# The sender goes on to the other letter when the answer to the one before has come; both ways may lose letters.
BITS = program_of("""road row wide loses
road row wide loses
role snd 0
send 0 x 0
wait 1 a:.:2 b:.:0
send 0 y 0
wait 1 a:.:2 b:.:0
role rcv 0
wait 0 x:.:1 y:.:4
send 1 a 0
wait 0 x:.:1 y:.:3
send 1 b 0
wait 0 x:.:1 y:.:4
hand snd
hand rcv""")


def random_talk_step(rng, roads, many, count):
    word = rng.choice(["send", "send", "wait", "wait", "wait", "pick"] + ["tell", "set", "add", "if"] * many)
    road = rng.randrange(roads)
    if word == "send":
        return (word, road, rng.choice("ab"), rng.randrange(2))
    if word == "tell":
        return (word, road, rng.choice("ab"), 0)
    if word == "wait":
        kinds = sorted(rng.sample("ab", rng.randint(1, 2)))
        places = [None] + list(range(many))
        return (word, road) + tuple((kind, rng.choice(places), rng.randrange(count + 1)) for kind in kinds)
    if word == "pick":
        return (word,) + tuple(sorted(rng.sample(range(count + 1), rng.randint(1, 2))))
    return (word, 0, rng.randrange(3)) + ((rng.randrange(count + 1),) if word == "if" else ())


def random_talk(rng, wides):
    """A program with so many wide roads, most of whose steps send or wait."""
    roads = [WIDE] * wides + [("heap", 1, True), ("row", 1, False)][:rng.choice([0, 0, 1, 2])]
    rng.shuffle(roads)
    names = ["p", "q"][:rng.randint(1, 2)]
    roles = []
    for name in names:
        many = rng.randint(0, 1)
        count = rng.randint(2, 5)
        roles.append((name, many, tuple(random_talk_step(rng, len(roads), many, count) for k in range(count))))
    program = (tuple(roads), tuple(roles), tuple(rng.choice(names) for k in range(rng.randint(1, 2))))
    assert is_program(program), program
    return program


def random_growing_claim(rng, program):
    def on():
        return ("on", rng.randrange(len(program[0])), rng.choice("ab"), rng.randint(1, 2))

    def at():
        role = rng.choice(program[1])
        return ("at", role[0], rng.randint(1, len(role[2])), 1)

    return rng.choice([
        at(), on(), ("and", at(), at()), ("and", at(), on()), ("and", on(), on()), ("or", on(), ("and", at(), on())),
        ("and", at(), on(), on()), ("and", ("not", at()), on()), ("or", at(), ("and", on(), on())),
    ])


def wide_places(program):
    return [road for road, told in enumerate(program[0]) if told[1] is None]


def with_words(program, floor, words):
    loads = list(floor[1])
    for road, word in zip(wide_places(program), words):
        loads[road] = word
    return (floor[0], tuple(loads))


def all_words(program, longest):
    rows = [
        [word for size in range(longest + 1) for word in itertools.product(sent_on(program, road), repeat=size)]
        for road in wide_places(program)
    ]
    return list(itertools.product(*rows))
