"""[13.1] to [13.3]: what is shown outside, worlds behind letters, and whether one program is within another."""

import copy
import random
import unittest

from lettermoat.errors import NoMove, NoWorlds, TooMany
from lettermoat.graphs import ahead, all_worlds
from lettermoat.likeness import can_show, outside, within_book_stands, within_told, worlds_behind
from lettermoat.runs import shown, worlds_of
from lettermoat.texts import program_of
from lettermoat.worlds import moved, moves, start_world

from tests.samples import TALK, WIDE, random_run, random_talk_step, tuples_all_down, with_steps

# A sender of a, then b, on road 0; a taker beside it takes whatever comes.
TAKER = ("taker", 0, (("wait", 0, ("a", None, 0), ("b", None, 0)),))


def sender(*steps, most=1):
    return ((("row", most, False),), (("sender", 1, steps), TAKER), ("sender", "taker"))


# a and b by turns; a or b at each turn; a twice and no more; a, then b or nothing at all.
TURNS = sender(("send", 0, "a", 0), ("send", 0, "b", 0), ("pick", 0))
EITHER = sender(("pick", 1, 3), ("send", 0, "a", 0), ("pick", 0), ("send", 0, "b", 0), ("pick", 0))
TWICE = sender(("send", 0, "a", 0), ("send", 0, "a", 0))
MAYBE = sender(("send", 0, "a", 0), ("pick", 2, 3), ("send", 0, "b", 0), ("stop",))

# The choice is made ahead of the first letter, or behind it: from outside these are like.
EARLY = sender(("pick", 1, 4), ("send", 0, "a", 0), ("send", 0, "a", 0), ("stop",), ("send", 0, "a", 0),
               ("send", 0, "b", 0), ("stop",))
LATE = sender(("send", 0, "a", 0), ("pick", 2, 4), ("send", 0, "a", 0), ("stop",), ("send", 0, "b", 0), ("stop",))

A = (0, "a", 0)
B = (0, "b", 0)

WIDE_ONE = with_steps(("send", 0, "a", 0), roads=(WIDE,), many=0)


def shows(program, world, move, roads):
    if move[0] == "lose":
        return None
    name, s, numbers = world[0][move[1]]
    steps = {role[0]: role for role in program[1]}[name][2]
    if steps[s][0] not in ("send", "tell") or steps[s][1] not in roads:
        return None
    return (steps[s][1], steps[s][2], steps[s][3] if steps[s][0] == "send" else numbers[steps[s][3]])


def behind_by_words(program, worlds, roads, letter):
    if letter != ():
        worlds = [behind for world in worlds for move, behind in ahead(program, world)
                  if shows(program, world, move, roads) == letter]
    found = list(dict.fromkeys(worlds))
    for world in found:
        for move, behind in ahead(program, world):
            if shows(program, world, move, roads) is None and behind not in found:
                found.append(behind)
    return tuple(sorted(found))


def can_show_by_words(program, roads, letters):
    """Goes through pairs of a world and how many of the letters have been shown."""
    found = [(start_world(program), 0)]
    for world, count in found:
        for move, behind in ahead(program, world):
            letter = shows(program, world, move, roads)
            if letter is None or letters[count:count + 1] == (letter,):
                pair = (behind, count + (letter is not None))
                if pair not in found:
                    found.append(pair)
    return any(count == len(letters) for world, count in found)


def pairs_behind(one, other, roads, pair):
    for move, behind in ahead(one, pair[0]):
        letter = shows(one, pair[0], move, roads)
        yield (behind, pair[1] if letter is None else behind_by_words(other, pair[1], roads, letter))


def first_pair(one, other, roads):
    return (start_world(one), behind_by_words(other, (start_world(other),), roads, ()))


def pairs_by_words(one, other, roads):
    """All pairs with worlds, and whether one without any comes."""
    found = [first_pair(one, other, roads)]
    beyond = False
    for pair in found:
        for behind in pairs_behind(one, other, roads, pair):
            if behind[1] == ():
                beyond = True
            elif behind not in found:
                found.append(behind)
    return tuple(sorted(found)), beyond


def stands_by_words(one, other, roads, pairs):
    if first_pair(one, other, roads) not in pairs or any(pair[1] == () for pair in pairs):
        return False
    return all(behind in pairs for pair in pairs for behind in pairs_behind(one, other, roads, pair))


def changed(rng, program):
    """The program with one step of one role put in another one's place."""
    roles = list(program[1])
    place = rng.randrange(len(roles))
    name, many, steps = roles[place]
    other = rng.choice(steps + (("stop",),))
    k = rng.randrange(len(steps))
    roles[place] = (name, many, steps[:k] + (other,) + steps[k + 1:])
    return (program[0], tuple(roles), program[2])


def talks(seed, count, most):
    """Random programs with all their worlds, most of whose steps send or wait."""
    rng = random.Random(seed)
    found = []
    while len(found) < count:
        roads = tuple((rng.choice(["row", "heap"]), rng.randint(1, 2), rng.random() < 0.3)
                      for k in range(rng.randint(1, 2)))
        roles = []
        for name in "pq":
            size = rng.randint(2, 5)
            roles.append((name, 1, tuple(random_talk_step(rng, len(roads), 1, size) for k in range(size))))
        program = (roads, tuple(roles), tuple(rng.choice("pq") for k in range(rng.randint(1, 2))))
        try:
            found.append((program, all_worlds(program, most)))
        except TooMany:
            pass
    return found


def couples(seed, count, most):
    """Random programs, each with another one that has the same roads, and some of the roads."""
    rng = random.Random(seed)
    for program, worlds in talks(seed, count, most):
        other = changed(rng, program) if rng.random() < 0.8 else program
        roads = tuple(road for road in range(len(program[0])) if rng.random() < 0.9)
        try:
            all_worlds(other, most)
        except TooMany:
            continue
        yield (program, other, roads) if rng.random() < 0.5 else (other, program, roads)


class Outside(unittest.TestCase):

    def test_what_a_move_shows(self):
        start = start_world(TALK)
        self.assertEqual(outside(TALK, start, ("hand", 0, 0), (0, 1)), (0, "ask", 1))
        self.assertEqual(outside(TALK, start, ("hand", 0, 0), (0,)), (0, "ask", 1))
        self.assertIsNone(outside(TALK, start, ("hand", 0, 0), (1,)))
        self.assertIsNone(outside(TALK, start, ("hand", 0, 0), ()))

    def test_a_tell(self):
        world = worlds_of(TALK, (("hand", 0, 0), ("hand", 1, 1), ("hand", 1, 0)))[-1]
        self.assertEqual(outside(TALK, world, ("hand", 1, 0), (0, 1)), (1, "yes", 1))

    def test_what_shows_nothing(self):
        run = (("hand", 0, 0), ("hand", 1, 1), ("hand", 1, 0), ("hand", 1, 0))
        worlds = worlds_of(TALK, run)
        self.assertIsNone(outside(TALK, worlds[1], ("hand", 1, 1), (0, 1)))
        self.assertIsNone(outside(TALK, worlds[2], ("hand", 1, 0), (0, 1)))
        self.assertIsNone(outside(TALK, worlds[4], ("lose", 1, 0), (0, 1)))
        self.assertIsNone(outside(TALK, worlds[4], ("hand", 0, 4), (0, 1)))

    def test_refused_in_order(self):
        start = start_world(TALK)
        for move in (("hand", 1, 0), ("hand", 0, 1), ("hand", 2, 0), ("hand", -1, 0), ("lose", 0, 0), ("lose", 5, 0)):
            with self.subTest(move), self.assertRaises(NoMove):
                outside(TALK, start, move, (0, 1))
            with self.subTest(move), self.assertRaises(NoWorlds):
                outside(WIDE_ONE, start_world(WIDE_ONE), move, (0,))

    def test_random(self):
        rng = random.Random(141)
        seen = 0
        for program, worlds in talks(140, 200, 60):
            roads = tuple(road for road in range(len(program[0])) if rng.random() < 0.7)
            run = random_run(rng, program, 10)
            row = []
            for world, move in zip(worlds_of(program, run), run):
                letter = outside(program, world, move, roads)
                self.assertEqual(letter, shows(program, world, move, roads))
                row += [letter] if letter else []
            self.assertEqual(shown(program, run, roads), tuple(row))
            seen += len(row)
        self.assertGreater(seen, 100)


class WorldsBehind(unittest.TestCase):

    def test_behind_nothing(self):
        start = start_world(TURNS)
        self.assertEqual(worlds_behind(TURNS, (start,), (0,), ()), (start,))
        self.assertEqual(worlds_behind(TURNS, (), (0,), ()), ())
        self.assertEqual(worlds_behind(TURNS, (start,), (), ()), tuple(sorted(all_worlds(TURNS, 600))))

    def test_behind_a_letter(self):
        start = start_world(EARLY)
        first = worlds_behind(EARLY, (start,), (0,), ())
        self.assertEqual(len(first), 3)
        self.assertEqual(worlds_behind(EARLY, (start,), (0,), A), ())
        behind = worlds_behind(EARLY, first, (0,), A)
        self.assertEqual(len(behind), 4)
        self.assertEqual(worlds_behind(EARLY, first, (0,), B), ())
        self.assertEqual(worlds_behind(EARLY, first, (), A), ())
        self.assertEqual(worlds_behind(EARLY, first, (0,), (0, "a", 1)), ())
        self.assertEqual(worlds_behind(EARLY, first, (0,), (1, "a", 0)), ())

    def test_straight_from_them(self):
        start = start_world(MAYBE)
        sent = moved(MAYBE, start, ("hand", 0, 0))
        self.assertEqual(worlds_behind(MAYBE, (sent,), (0,), B), ())
        self.assertEqual(len(worlds_behind(MAYBE, worlds_behind(MAYBE, (sent,), (0,), ()), (0,), B)), 2)

    def test_refused(self):
        for letter in ((), A):
            with self.assertRaises(NoWorlds):
                worlds_behind(WIDE_ONE, (start_world(WIDE_ONE),), (0,), letter)

    def test_random(self):
        rng = random.Random(142)
        seen = 0
        for program, worlds in talks(143, 200, 40):
            roads = tuple(road for road in range(len(program[0])) if rng.random() < 0.8)
            some = tuple(sorted(world for world in worlds if rng.random() < 0.4))
            letters = sorted({shows(program, world, move, roads) for world in some
                              for move in moves(program, world)} - {None})
            for letter in [()] + letters:
                told = worlds_behind(program, some, roads, letter)
                self.assertEqual(told, behind_by_words(program, some, roads, letter))
                seen += letter != () and len(told) > 1
        self.assertGreater(seen, 30)


class CanShow(unittest.TestCase):

    def test_rows(self):
        for row in ((), (A,), (A, B), (A, B, A), (A, B) * 20):
            self.assertIs(can_show(TURNS, (0,), row), True)
            self.assertIs(can_show(EITHER, (0,), row), True)
        for row in ((B,), (A, A), (A, B, B), (A, B, A, A)):
            self.assertIs(can_show(TURNS, (0,), row), False)
            self.assertIs(can_show(EITHER, (0,), row), True)
        self.assertIs(can_show(TWICE, (0,), (A, A)), True)
        self.assertIs(can_show(TWICE, (0,), (A, A, A)), False)

    def test_the_row_need_not_be_shown_at_the_end_of_a_run(self):
        self.assertIs(can_show(MAYBE, (0,), (A,)), True)
        self.assertIs(can_show(MAYBE, (0,), (A, B)), True)

    def test_other_roads_and_letters(self):
        self.assertIs(can_show(TURNS, (), ()), True)
        self.assertIs(can_show(TURNS, (), (A,)), False)
        self.assertIs(can_show(TURNS, (0,), ((0, "a", 1),)), False)
        self.assertIs(can_show(TALK, (0,), ((0, "ask", 1), (0, "ask", 1))), True)
        self.assertIs(can_show(TALK, (0, 1), ((0, "ask", 1), (0, "ask", 1))), False)
        self.assertIs(can_show(TALK, (1,), ((1, "no", 2),)), True)
        self.assertIs(can_show(TALK, (1,), ((1, "yes", 1),)), True)
        self.assertIs(can_show(TALK, (1,), ((1, "yes", 2),)), False)
        self.assertIs(can_show(TALK, (1,), ((1, "no", 2), (1, "yes", 1))), False)

    def test_refused(self):
        with self.assertRaises(NoWorlds):
            can_show(WIDE_ONE, (0,), ())

    def test_random(self):
        rng = random.Random(144)
        seen = {True: 0, False: 0}
        for program, worlds in talks(145, 300, 40):
            roads = tuple(range(len(program[0])))
            run = random_run(rng, program, 10)
            row = list(shown(program, run, roads))
            self.assertIs(can_show(program, roads, tuple(row)), True)
            rng.shuffle(row)
            row = tuple(row) + tuple(rng.sample(row, len(row) > 0 and rng.randrange(2)))
            wanted = can_show_by_words(program, roads, row)
            self.assertIs(can_show(program, roads, row), wanted)
            seen[wanted] += 1
        self.assertGreater(min(seen.values()), 20)


class WithinTold(unittest.TestCase):

    def check(self, one, other, roads, most=600):
        told = within_told(one, other, roads, most)
        pairs, beyond = pairs_by_words(one, other, roads)
        self.assertTrue(tuples_all_down(told))
        if told[0] == "book":
            self.assertFalse(beyond)
            self.assertEqual(told, ("book", pairs))
            self.assertIs(within_book_stands(one, other, roads, pairs), True)
        else:
            self.assertTrue(beyond)
            self.assertEqual((told[0], len(told)), ("run", 2))
            row = shown(one, told[1], roads)
            self.assertFalse(can_show_by_words(other, roads, row))
            self.assertTrue(can_show_by_words(other, roads, row[:-1]))
            self.assertIs(within_book_stands(one, other, roads, pairs), False)
        return told[0]

    def test_within(self):
        for program in (TURNS, EITHER, TWICE, MAYBE, EARLY, LATE):
            self.assertEqual(self.check(program, program, (0,)), "book")
            self.assertEqual(self.check(program, EITHER, (0,)), "book")
        self.assertEqual(self.check(MAYBE, TURNS, (0,)), "book")
        self.assertEqual(self.check(TWICE, EARLY, (0,)), "book")

    def test_like_from_outside(self):
        self.assertEqual(self.check(EARLY, LATE, (0,)), "book")
        self.assertEqual(self.check(LATE, EARLY, (0,)), "book")

    def test_not_within(self):
        self.assertEqual(self.check(EITHER, TURNS, (0,)), "run")
        self.assertEqual(self.check(TURNS, MAYBE, (0,)), "run")
        self.assertEqual(self.check(LATE, TWICE, (0,)), "run")
        self.assertEqual(self.check(TWICE, MAYBE, (0,)), "run")

    def test_on_no_roads(self):
        self.assertEqual(self.check(EITHER, TURNS, ()), "book")
        start = start_world(TWICE)
        told = within_told(TURNS, TWICE, (), 600)
        self.assertEqual(len(told[1]), len(all_worlds(TURNS, 600)))
        self.assertEqual(told[1][0], (start_world(TURNS), tuple(sorted(all_worlds(TWICE, 600)))))
        self.assertIn(start, told[1][0][1])

    def test_programs_with_unlike_roles_and_roads(self):
        other = ((("heap", 2, True), ("row", 1, False)), (("x", 0, (("send", 0, "a", 0), ("pick", 0))),), ("x",))
        self.assertEqual(self.check(TWICE, other, (0,)), "book")
        self.assertEqual(self.check(other, TWICE, (0,)), "run")

    def test_a_small_book(self):
        one = with_steps(("send", 0, "a", 0), roads=(("row", 1, False),), many=0)
        start = start_world(one)
        end = moved(one, start, ("hand", 0, 0))
        self.assertEqual(within_told(one, one, (0,), 600), ("book", ((start, (start,)), (end, (end,)))))
        still = with_steps(("stop",), roads=(("row", 1, False),), many=0)
        self.assertEqual(within_told(still, one, (0,), 600), ("book", ((start_world(still), (start,)),)))
        self.assertEqual(within_told(one, still, (0,), 600), ("run", (("hand", 0, 0),)))

    def test_wide_is_refused_first(self):
        many = sender(*[("pick", k + 1) for k in range(11)], ("pick", 0))
        for one, other in ((WIDE_ONE, TURNS), (TURNS, WIDE_ONE), (WIDE_ONE, WIDE_ONE), (many, WIDE_ONE)):
            for most in (1, 600):
                with self.assertRaises(NoWorlds):
                    within_told(one, other, (0,), most)
            with self.assertRaises(NoWorlds):
                within_book_stands(one, other, (0,), ())

    def test_too_many_worlds(self):
        size = len(all_worlds(TURNS, 600))
        lesser = len(all_worlds(TWICE, 600))
        self.assertLess(lesser, size)
        with self.assertRaises(TooMany):
            within_told(TURNS, TWICE, (0,), size - 1)
        with self.assertRaises(TooMany):
            within_told(TWICE, TURNS, (0,), size - 1)
        self.assertEqual(within_told(TURNS, TWICE, (0,), size)[0], "run")

    def test_too_many_pairs(self):
        pairs, beyond = pairs_by_words(EARLY, EITHER, (0,))
        self.assertFalse(beyond)
        one = ((("row", 1, True),), (("x", 0, (("send", 0, "a", 0), ("pick", 0, 2), ("stop",))),), ("x",))
        other = sender(("send", 0, "a", 0), ("send", 0, "a", 0), ("send", 0, "a", 0), ("send", 0, "a", 0), ("pick", 0))
        pairs, beyond = pairs_by_words(one, other, (0,))
        worlds = max(len(all_worlds(one, 600)), len(all_worlds(other, 600)))
        self.assertGreater(len(pairs), worlds)
        self.assertEqual(len(within_told(one, other, (0,), len(pairs))[1]), len(pairs))
        for most in (worlds, len(pairs) - 1):
            with self.assertRaises(TooMany):
                within_told(one, other, (0,), most)

    def test_too_many_pairs_ahead_of_a_run(self):
        steps = (("pick", 1, 3), ("send", 0, "a", 0), ("pick", 1), ("send", 0, "b", 0))
        one = ((("row", 1, True),), (("x", 0, steps),), ("x",))
        other = sender(("send", 0, "a", 0), ("send", 0, "a", 0), ("send", 0, "a", 0), ("send", 0, "a", 0), ("pick", 0))
        pairs, beyond = pairs_by_words(one, other, (0,))
        worlds = max(len(all_worlds(one, 600)), len(all_worlds(other, 600)))
        self.assertTrue(beyond)
        self.assertGreater(len(pairs), worlds)
        self.assertEqual(within_told(one, other, (0,), len(pairs))[0], "run")
        for most in (worlds, len(pairs) - 1):
            with self.assertRaises(TooMany):
                within_told(one, other, (0,), most)

    def test_random(self):
        seen = {"book": 0, "run": 0}
        for one, other, roads in couples(146, 900, 30):
            seen[self.check(one, other, roads)] += 1
        self.assertGreater(min(seen.values()), 30)

    def test_many_worlds(self):
        many = program_of("""road row 2
road row 2
role p 2
add 0 1
tell 0 x 0
pick 0 3
add 1 1
tell 1 y 1
pick 0
role q 1
wait 0 x:0:1
wait 1 y:.:0
hand p
hand q""")
        size = len(all_worlds(many, 600))
        self.assertGreater(size, 100)
        told = within_told(many, many, (1,), 600)
        self.assertEqual(told[0], "book")
        self.assertIs(within_book_stands(many, many, (1,), told[1]), True)


class WithinBookStands(unittest.TestCase):

    def check(self, wanted, one, other, roads, pairs):
        self.assertIs(stands_by_words(one, other, roads, pairs), wanted)
        self.assertIs(within_book_stands(one, other, roads, pairs), wanted)

    def test_each_pair_is_needed(self):
        pairs = within_told(MAYBE, TURNS, (0,), 600)[1]
        self.check(True, MAYBE, TURNS, (0,), pairs)
        self.check(False, MAYBE, TURNS, (0,), ())
        for place in range(len(pairs)):
            self.check(False, MAYBE, TURNS, (0,), pairs[:place] + pairs[place + 1:])

    def test_worlds_left_out_or_put_in(self):
        pairs = within_told(LATE, EARLY, (0,), 600)[1]
        every = tuple(sorted(all_worlds(EARLY, 600)))
        for place, (world, worlds) in enumerate(pairs):
            for some in (worlds[1:], worlds[:-1], (), every):
                if some != worlds:
                    spoilt = tuple(sorted(pairs[:place] + ((world, some),) + pairs[place + 1:]))
                    self.check(False, LATE, EARLY, (0,), spoilt)

    def test_a_pair_without_worlds(self):
        pairs = within_told(MAYBE, TURNS, (0,), 600)[1]
        for world in all_worlds(MAYBE, 600):
            self.check(False, MAYBE, TURNS, (0,), tuple(sorted(pairs + ((world, ()),))))

    def test_more_pairs_than_needed(self):
        pairs = within_told(TWICE, EITHER, (0,), 600)[1]
        end = ((("sender", 2, (0,)), ("taker", 0, ())), ((),))
        some = (start_world(EITHER),)
        self.assertNotIn((end, some), pairs)
        self.check(True, TWICE, EITHER, (0,), tuple(sorted(pairs + ((end, some),))))
        beside = (start_world(TWICE), (start_world(EITHER),))
        self.assertNotIn(beside, pairs)
        self.check(False, TWICE, EITHER, (0,), tuple(sorted(pairs + (beside,))))

    def test_of_other_programs(self):
        pairs = within_told(LATE, EARLY, (0,), 600)[1]
        self.check(False, EARLY, LATE, (0,), within_told(EARLY, LATE, (0,), 600)[1][1:])
        self.assertIs(within_book_stands(LATE, EITHER, (0,), pairs), False)
        self.assertIs(within_book_stands(MAYBE, EARLY, (0,), pairs), False)
        foreign = tuple(sorted(pairs + ((start_world(TALK), pairs[0][1]),)))
        self.assertIs(within_book_stands(LATE, EARLY, (0,), foreign), False)
        foreign = tuple(sorted(pairs + ((pairs[0][0], (start_world(TALK),)),)))
        self.assertIs(within_book_stands(LATE, EARLY, (0,), foreign), False)

    def test_on_other_roads(self):
        pairs = within_told(MAYBE, TURNS, (0,), 600)[1]
        self.assertIs(within_book_stands(MAYBE, TURNS, (), pairs), False)

    def test_what_is_not_rising(self):
        pairs = within_told(MAYBE, TURNS, (0,), 600)[1]
        self.assertIs(within_book_stands(MAYBE, TURNS, (0,), tuple(reversed(pairs))), False)
        end = ((("sender", 2, (0,)), ("taker", 0, ())), ((),))
        some = tuple(sorted(all_worlds(EITHER, 600)))[:2]
        pairs = within_told(TWICE, EITHER, (0,), 600)[1]
        good = tuple(sorted(pairs + ((end, some),)))
        self.assertIs(within_book_stands(TWICE, EITHER, (0,), good), True)
        spoilt = tuple(sorted(pairs + ((end, some[::-1]),)))
        self.assertIs(within_book_stands(TWICE, EITHER, (0,), spoilt), False)

    def test_random_spoilings(self):
        rng = random.Random(147)
        seen = {True: 0, False: 0}
        for one, other, roads in couples(148, 300, 20):
            pairs = pairs_by_words(one, other, roads)[0]
            for k in range(3):
                some = tuple(pair for pair in pairs if rng.random() < 0.97)
                wanted = stands_by_words(one, other, roads, some)
                self.assertIs(within_book_stands(one, other, roads, some), wanted)
                seen[wanted] += 1
        self.assertGreater(min(seen.values()), 50)


class PlainAnswers(unittest.TestCase):

    def test_plain_data_told_again_the_same_and_nothing_changed(self):
        start = start_world(MAYBE)
        pairs = within_told(MAYBE, TURNS, (0,), 600)[1]
        handed = (MAYBE, TURNS, EITHER, start, pairs)
        before = copy.deepcopy(handed)
        for asked in (
            lambda: outside(MAYBE, start, ("hand", 0, 0), (0,)),
            lambda: worlds_behind(MAYBE, (start,), (0,), A),
            lambda: can_show(MAYBE, (0,), (A, B)),
            lambda: within_told(MAYBE, TURNS, (0,), 600),
            lambda: within_told(EITHER, TURNS, (0,), 600),
            lambda: within_book_stands(MAYBE, TURNS, (0,), pairs),
        ):
            self.assertTrue(tuples_all_down(asked()))
            self.assertEqual(asked(), asked())
            self.assertEqual(handed, before)


if __name__ == "__main__":
    unittest.main()
