"""Roads, and the letters on them: rows and heaps, and what lies within what."""

from lettermoat.errors import NoMove


def put_on(road, letters, letter):
    if road[1] is not None and len(letters) >= road[1]:
        return None
    if road[0] == "heap":
        return tuple(sorted(letters + (letter,)))
    return letters + (letter,)


# Taking or losing either of two like letters side by side comes to the same, so the first stands for both.
def first_places(letters):
    return tuple([k for k in range(len(letters)) if k == 0 or letters[k] != letters[k - 1]])


def places_taken(road, letters):
    places = first_places(letters)
    return places if road[0] == "heap" else places[:1]


def places_lost(road, letters):
    return first_places(letters) if road[2] else ()


def without(letters, place):
    if not 0 <= place < len(letters):
        raise NoMove(f"no letter lies at place {place}")
    return letters[:place] + letters[place + 1:]


# Each letter goes to the first place that is left for it: no other choice leaves more room for those behind.
def within(some, others):
    places = []
    for place, letter in enumerate(others):
        if len(places) < len(some) and some[len(places)] == letter:
            places.append(place)
    return tuple(places) if len(places) == len(some) else None


def all_within(some, others):
    for word, other in zip(some, others):
        if within(word, other) is None:
            return False
    return True


def letters_in(row):
    return sum([len(word) for word in row])


def has_one_within(rows, row):
    for some in rows:
        if all_within(some, row):
            return True
    return False


# A row can only lie within an unlike one that has more letters, so those with fewer are looked at first.
def leasts(rows):
    found = []
    for row in sorted(sorted(set(rows)), key=letters_in):
        if not has_one_within(found, row):
            found.append(row)
    return tuple(sorted(found))
