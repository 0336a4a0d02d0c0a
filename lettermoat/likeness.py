"""What programs show from outside, and whether all that one shows another one can show, too."""

from lettermoat.graphs import ahead, all_worlds, check_not_wide, found_from, way_back
from lettermoat.runs import letter_shown
from lettermoat.worlds import check_move, is_world, start_world


# A program seen on some roads. What has been looked at is kept, and rows of worlds are numbered: many pairs share them.
class Watcher:
    def __init__(self, program, roads):
        self.program = program
        self.roads = roads
        self.ways = {}
        self.rows = []
        self.numbers = {}
        self.led = {}

    # Pairs of what a move shows, or None, and the world behind it.
    def ways_from(self, world):
        if world not in self.ways:
            found = []
            for move, behind in ahead(self.program, world):
                found.append((letter_shown(self.program, world, move, self.roads), behind))
            self.ways[world] = found
        return self.ways[world]

    def unseen_ways(self, world):
        return [way for way in self.ways_from(world) if way[0] is None]

    def worlds_by(self, worlds, letter):
        straight = list(worlds)
        if letter != ():
            straight = []
            for world in worlds:
                straight.extend([behind for shows, behind in self.ways_from(world) if shows == letter])
        return tuple(sorted(found_from(straight, lambda world: self.unseen_ways(world), None)))

    def number_of_row(self, worlds):
        if worlds not in self.numbers:
            self.numbers[worlds] = len(self.rows)
            self.rows.append(worlds)
        return self.numbers[worlds]

    def first_number(self):
        return self.number_of_row(self.worlds_by((start_world(self.program),), ()))

    def number_by(self, number, letter):
        if (number, letter) not in self.led:
            self.led[(number, letter)] = self.number_of_row(self.worlds_by(self.rows[number], letter))
        return self.led[(number, letter)]

    def is_empty(self, number):
        return self.rows[number] == ()


def outside(program, world, move, roads):
    check_not_wide(program)
    check_move(program, world, move)
    return letter_shown(program, world, move, roads)


def worlds_behind(program, worlds, roads, letter):
    check_not_wide(program)
    return Watcher(program, roads).worlds_by(worlds, letter)


def can_show(program, roads, letters):
    check_not_wide(program)
    watcher = Watcher(program, roads)
    number = watcher.first_number()
    for letter in letters:
        number = watcher.number_by(number, letter)
    return not watcher.is_empty(number)


# A pair here is of a world of the one and of the number of the other's worlds.
def first_pair(one, watcher):
    return (start_world(one), watcher.first_number())


def pairs_ahead(one, watcher, pair):
    found = []
    for move, behind in ahead(one, pair[0]):
        letter = letter_shown(one, pair[0], move, watcher.roads)
        number = pair[1] if letter is None else watcher.number_by(pair[1], letter)
        found.append((move, (behind, number)))
    return found


def shared_ahead(one, watcher, pair):
    return [(move, behind) for move, behind in pairs_ahead(one, watcher, pair) if not watcher.is_empty(behind[1])]


# The pairs come in the order in which they were found, so a way that shows too much is a short one.
def way_beyond(one, watcher, found):
    for pair in found:
        for move, behind in pairs_ahead(one, watcher, pair):
            if watcher.is_empty(behind[1]):
                return way_back(found, pair) + (move,)
    return None


def within_told(one, other, roads, most):
    check_not_wide(one)
    check_not_wide(other)
    # These refuse where there are too many.
    all_worlds(one, most)
    all_worlds(other, most)
    watcher = Watcher(other, roads)
    found = found_from((first_pair(one, watcher),), lambda pair: shared_ahead(one, watcher, pair), most)
    run = way_beyond(one, watcher, found)
    if run is not None:
        return ("run", run)
    return ("book", tuple(sorted([(world, watcher.rows[number]) for world, number in found])))


def are_good_worlds(program, worlds):
    return len(worlds) > 0 and list(worlds) == sorted(worlds) and all([is_world(program, world) for world in worlds])


def are_pairs(one, other, pairs):
    rows = dict([(worlds, True) for world, worlds in pairs])
    if not all([is_world(one, world) for world, worlds in pairs]) or list(pairs) != sorted(pairs):
        return False
    return all([are_good_worlds(other, worlds) for worlds in rows])


def within_book_stands(one, other, roads, pairs):
    check_not_wide(one)
    check_not_wide(other)
    if not are_pairs(one, other, pairs):
        return False
    watcher = Watcher(other, roads)
    known = dict([((world, watcher.number_of_row(worlds)), True) for world, worlds in pairs])
    if first_pair(one, watcher) not in known:
        return False
    for pair in known:
        if not all([behind in known for move, behind in pairs_ahead(one, watcher, pair)]):
            return False
    return True
