"""Claims about one world: what is one, whether it holds, and its text."""

from lettermoat.errors import NoClaim, NoText
from lettermoat.programs import is_from, is_word
from lettermoat.texts import number_of, word_of

# The sorts of the parts of the claims that have no claim in them: s a step, r a register, v what it holds.
PLAIN_PARTS = {
    "at": ("role", "s", "hands"),
    "has": ("role", "r", "v", "hands"),
    "on": ("road", "kind", "letters"),
}

LEAST = {"s": 0, "r": 0, "v": 0, "road": 0, "hands": 1, "letters": 1}

# What no program goes beyond; a program's own roles and roads may set narrower bounds.
MOST = {"s": 12, "r": 1, "v": 2, "road": 3, "hands": 6, "letters": 2}

MOST_PARTS = 4
MOST_DEEP = 4
MOST_ONS = 2


def is_plain(value, most):
    sorts = PLAIN_PARTS.get(value[0])
    if sorts is None or len(value) != len(sorts) + 1:
        return False
    for part, sort in zip(value[1:], sorts):
        if sort in ("role", "kind"):
            good = is_word(part)
        else:
            good = is_from(part, LEAST[sort], most[sort])
        if not good:
            return False
    return True


# The deepest allowed is counted down, so that what is nested without end is not walked to its end.
def is_built(value, deep, is_plain_one):
    if deep == 0 or not isinstance(value, tuple) or len(value) == 0 or not isinstance(value[0], str):
        return False
    if value[0] not in ("and", "or", "not"):
        return is_plain_one(value)
    if not 1 <= len(value) - 1 <= (1 if value[0] == "not" else MOST_PARTS):
        return False
    return all([is_built(part, deep - 1, is_plain_one) for part in value[1:]])


def plains_of(claim):
    if claim[0] in PLAIN_PARTS:
        return [claim]
    found = []
    for part in claim[1:]:
        found.extend(plains_of(part))
    return found


def ons_of(claim):
    return [plain for plain in plains_of(claim) if plain[0] == "on"]


def is_claim_of(value, is_plain_one):
    return is_built(value, MOST_DEEP, is_plain_one) and len(ons_of(value)) <= MOST_ONS


# A role or a road that isn't there leaves no step, register or road to tell of.
def is_plain_of(program, value):
    if len(value) < 2:
        return False
    roles = [role for role in program[1] if is_word(value[1]) and role[0] == value[1]]
    most = dict(MOST)
    most["s"] = max([len(role[2]) for role in roles], default=-1)
    most["r"] = max([role[1] - 1 for role in roles], default=-1)
    most["road"] = len(program[0]) - 1
    return is_plain(value, most)


def is_claim(program, value):
    return is_claim_of(value, lambda part: is_plain_of(program, part))


# Claims are looked at once, ahead of all the worlds of which they are asked. What is none may be of any kind: it is
# not shown, as showing it may fail.
def check_claim(program, claim):
    if not is_claim(program, claim):
        raise NoClaim("what was told is no claim of the program")


# None stands for each world, or for halts, as the asker tells.
def check_claim_or_none(program, claim):
    if claim is not None:
        check_claim(program, claim)


def counted(world, claim):
    if claim[0] == "at":
        return len([hand for hand in world[0] if hand[0] == claim[1] and hand[1] == claim[2]])
    if claim[0] == "has":
        return len([hand for hand in world[0] if hand[0] == claim[1] and hand[2][claim[2]] == claim[3]])
    return len([letter for letter in world[1][claim[1]] if letter[0] == claim[2]])


def is_so(world, claim):
    if claim[0] == "and":
        return all([is_so(world, part) for part in claim[1:]])
    if claim[0] == "or":
        return any([is_so(world, part) for part in claim[1:]])
    if claim[0] == "not":
        return not is_so(world, claim[1])
    return counted(world, claim) >= claim[-1]


def holds(program, world, claim):
    check_claim(program, claim)
    return is_so(world, claim)


def grows(claim):
    if claim[0] in PLAIN_PARTS:
        return True
    if claim[0] == "not":
        return ons_of(claim) == []
    return all([grows(part) for part in claim[1:]])


def claim_text(claim):
    word = claim[0]
    texts = [claim_text(part) if isinstance(part, tuple) else str(part) for part in claim[1:]]
    inner = " ".join(texts)
    return f"{word}({inner})"


# The blanks within brackets belong to the parts.
def split_outside_brackets(text):
    parts = []
    depth = 0
    start = 0
    for place, sign in enumerate(text):
        if sign == "(":
            depth += 1
        elif sign == ")":
            depth -= 1
        elif sign == " " and depth == 0:
            parts.append(text[start:place])
            start = place + 1
    return parts + [text[start:]]


def plain_read(word, inner):
    sorts = PLAIN_PARTS[word]
    texts = inner.split(" ")
    if len(texts) != len(sorts):
        raise NoText(f"{inner!r} are not the parts of {word}")
    parts = [word_of(text) if sort in ("role", "kind") else number_of(text) for text, sort in zip(texts, sorts)]
    return (word,) + tuple(parts)


def claim_read(text, deep):
    bracket = text.find("(")
    if deep == 0 or bracket == -1 or not text.endswith(")"):
        raise NoText(f"{text!r} is not a claim")
    word = text[:bracket]
    inner = text[bracket + 1:-1]
    if word in PLAIN_PARTS:
        return plain_read(word, inner)
    return (word,) + tuple([claim_read(part, deep - 1) for part in split_outside_brackets(inner)])


def claim_of(text):
    claim = claim_read(text, MOST_DEEP)
    if not is_claim_of(claim, lambda part: is_plain(part, dict(MOST))):
        raise NoText(f"{text!r} lies beyond the bounds of claims")
    return claim
