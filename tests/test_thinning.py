"""[12.1] to [12.3]: own steps, rising ones, what claims see, thinned moves, runs and books."""

import copy
import random
import unittest

from lettermoat.books import halt_told, never_told
from lettermoat.claims import is_claim, is_so
from lettermoat.errors import NoClaim, NoWorlds, TooMany
from lettermoat.folding import folded_told
from lettermoat.graphs import all_worlds
from lettermoat.runs import worlds_of
from lettermoat.thinning import is_own, is_rising, sees, thinned_book_stands, thinned_moves, thinned_told
from lettermoat.worlds import choices, moved, moves, start_world

from tests.samples import NEVER, NO_CLAIMS, SOME_TIME, TALK, WIDE, is_halt, random_claim, random_program
from tests.samples import small_programs, tuples_all_down, with_steps

# All words of own steps, going on and going back.
STEPS = with_steps(
    ("set", 0, 1), ("add", 1, 2), ("if", 0, 1, 4), ("if", 1, 0, 3), ("if", 0, 0, 0), ("pick", 6, 8), ("pick", 5, 7),
    ("pick", 7), ("pick", 9), ("send", 0, "a", 0), ("if", 0, 0, 12), ("pick", 12),
)

# Two hands, each with own steps ahead of a send.
WEAVE = (
    (("row", 2, False),),
    (("one", 1, (("set", 0, 1), ("add", 0, 1), ("tell", 0, "a", 0))),
     ("two", 1, (("pick", 1, 2), ("set", 0, 2), ("send", 0, "b", 0), ("stop",)))),
    ("one", "two"),
)


def may_lead_to(step, s):
    named = {"set": [], "add": [], "if": list(step[3:]), "pick": list(step[1:])}[step[0]]
    return named + [s + 1] * (step[0] != "pick")


def parts_of(claim):
    if claim[0] in ("and", "or", "not"):
        return [plain for part in claim[1:] for plain in parts_of(part)]
    return [claim]


def sees_by_words(program, claim, name, s):
    step = {role[0]: role for role in program[1]}[name][2][s]
    for plain in parts_of(claim) if claim else []:
        if plain[0] == "at" and plain[1] == name and plain[2] in [s] + may_lead_to(step, s):
            return True
        if plain[0] == "has" and plain[1] == name and step[0] in ("set", "add") and step[1] == plain[2]:
            return True
    return False


def thinned_by_words(program, claim, world):
    for k, (name, s, numbers) in enumerate(world[0]):
        steps = {role[0]: role for role in program[1]}[name][2]
        if s < len(steps) and steps[s][0] in ("set", "add", "if", "pick"):
            if min(may_lead_to(steps[s], s)) > s and not sees_by_words(program, claim, name, s):
                return tuple(("hand", k, choice) for choice in choices(program, world, k))
    return moves(program, world)


def thinned_layers(program, claim):
    """The worlds to which thinned runs lead, by how many moves they need."""
    layers = [[start_world(program)]]
    found = set(layers[0])
    while layers[-1]:
        layer = []
        for world in layers[-1]:
            for move in thinned_by_words(program, claim, world):
                behind = moved(program, world, move)
                if behind not in found:
                    found.add(behind)
                    layer.append(behind)
        layers.append(layer)
    return layers


def is_such(program, claim, world):
    return is_halt(program, world) if claim is None else is_so(world, claim)


class IsOwn(unittest.TestCase):

    def test_words(self):
        for step in (("set", 0, 1), ("add", 0, 1), ("if", 0, 1, 2), ("pick", 0), ("pick", 0, 1, 2)):
            self.assertIs(is_own(step), True)
        for step in (("send", 0, "a", 1), ("tell", 0, "a", 0), ("wait", 0, ("a", None, 0)), ("begin", "a"), ("stop",)):
            self.assertIs(is_own(step), False)


class IsRising(unittest.TestCase):

    def test_steps(self):
        wanted = [True, True, True, False, False, True, False, False, True, None, True, True]
        for s, rising in enumerate(wanted):
            if rising is not None:
                self.assertIs(is_rising(STEPS, "main", s), rising, s)

    def test_the_next_one_counts_but_of_a_pick(self):
        program = with_steps(("if", 0, 0, 1), ("pick", 3), ("pick", 1, 3), ("pick", 3, 4))
        self.assertEqual([is_rising(program, "main", s) for s in range(4)], [True, True, False, False])

    def test_behind_the_last(self):
        program = with_steps(("set", 0, 1))
        self.assertIs(is_rising(program, "main", 0), True)

    def test_of_the_role_told(self):
        program = with_steps(("pick", 0), others=(("other", 0, (("pick", 1),)),))
        self.assertIs(is_rising(program, "main", 0), False)
        self.assertIs(is_rising(program, "other", 0), True)


class Sees(unittest.TestCase):

    def check(self, claim, seen, name="main", program=STEPS):
        steps = {role[0]: role for role in program[1]}[name][2]
        for s, step in enumerate(steps):
            if is_own(step):
                self.assertIs(sees(program, claim, name, s), s in seen, (claim, s))
                self.assertIs(sees_by_words(program, claim, name, s), s in seen, (claim, s))

    def test_none_sees_none(self):
        self.check(None, ())

    def test_at(self):
        self.check(("at", "main", 0, 1), (0, 4))
        self.check(("at", "main", 4, 6), (2, 3, 4))
        self.check(("at", "main", 7, 1), (6, 7))
        self.check(("at", "main", 8, 1), (5, 8))

    def test_behind_the_last(self):
        self.check(("at", "main", 12, 1), (10, 11))
        program = with_steps(("set", 0, 1), ("set", 0, 2))
        self.check(("at", "main", 2, 1), (1,), "main", program)

    def test_has(self):
        self.check(("has", "main", 0, 2, 1), (0,))
        self.check(("has", "main", 1, 0, 1), (1,))

    def test_on_sees_none(self):
        self.check(("on", 0, "a", 1), ())

    def test_deep_parts(self):
        self.check(("not", ("and", ("on", 0, "a", 1), ("or", ("has", "main", 1, 0, 1), ("at", "main", 0, 1)))),
                   (0, 1, 4))

    def test_another_role(self):
        program = with_steps(("set", 0, 1), ("pick", 0), others=(("other", 1, (("set", 0, 1), ("pick", 0))),))
        self.check(("at", "other", 0, 1), (), "main", program)
        self.check(("has", "other", 0, 0, 1), (), "main", program)
        self.check(("has", "other", 0, 0, 1), (0,), "other", program)

    def test_refused(self):
        for claim in NO_CLAIMS[1:]:
            with self.subTest(claim), self.assertRaises(NoClaim):
                sees(TALK, claim, "helper", 1)
        self.assertIs(sees(TALK, None, "helper", 1), False)

    def test_random(self):
        rng = random.Random(121)
        seen = {True: 0, False: 0}
        for k in range(300):
            program = random_program(rng)
            claim = random_claim(rng, program)
            if not is_claim(program, claim):
                continue
            for name, many, steps in program[1]:
                for s, step in enumerate(steps):
                    if is_own(step):
                        wanted = sees_by_words(program, claim, name, s)
                        self.assertIs(sees(program, claim, name, s), wanted)
                        self.assertIs(is_rising(program, name, s), min(may_lead_to(step, s)) > s)
                        seen[wanted] += 1
        self.assertGreater(min(seen.values()), 100)


class ThinnedMoves(unittest.TestCase):

    def test_the_least_hand_alone(self):
        start = start_world(WEAVE)
        self.assertEqual(moves(WEAVE, start), (("hand", 0, 0), ("hand", 1, 0), ("hand", 1, 1)))
        self.assertEqual(thinned_moves(WEAVE, None, start), (("hand", 0, 0),))

    def test_the_next_hand_where_a_step_is_seen(self):
        start = start_world(WEAVE)
        self.assertEqual(thinned_moves(WEAVE, ("has", "one", 0, 2, 1), start), (("hand", 1, 0), ("hand", 1, 1)))
        self.assertEqual(thinned_moves(WEAVE, ("at", "one", 1, 1), start), (("hand", 1, 0), ("hand", 1, 1)))
        self.assertEqual(thinned_moves(WEAVE, ("at", "one", 2, 1), start), (("hand", 0, 0),))

    def test_the_next_hand_where_a_step_is_not_its_own(self):
        world = worlds_of(WEAVE, (("hand", 0, 0), ("hand", 0, 0)))[-1]
        self.assertEqual(thinned_moves(WEAVE, None, world), (("hand", 1, 0), ("hand", 1, 1)))

    def test_all_where_there_is_none(self):
        start = start_world(WEAVE)
        both = ("or", ("at", "one", 0, 1), ("at", "two", 0, 1))
        self.assertEqual(thinned_moves(WEAVE, both, start), moves(WEAVE, start))
        goes_round = with_steps(("pick", 0, 1), ("stop",), many=0)
        self.assertEqual(thinned_moves(goes_round, None, start_world(goes_round)), (("hand", 0, 0), ("hand", 0, 1)))

    def test_loses_are_among_all(self):
        program = with_steps(("set", 0, 1), ("stop",), roads=(("row", 2, True),))
        world = ((("main", 0, (0, 0)),), ((("a", 0), ("b", 0)),))
        self.assertEqual(thinned_moves(program, None, world), (("hand", 0, 0),))
        ended = ((("main", 1, (0, 0)),), ((("a", 0), ("b", 0)),))
        self.assertEqual(thinned_moves(program, None, ended), (("lose", 0, 0), ("lose", 0, 1)))

    def test_no_moves(self):
        for program in (with_steps(("stop",)), with_steps(("wait", 0, ("a", None, 0)))):
            self.assertEqual(thinned_moves(program, None, start_world(program)), ())
        behind = ((("main", 1, (0, 0)),), ((),))
        self.assertEqual(thinned_moves(with_steps(("set", 0, 1)), None, behind), ())

    def test_refused(self):
        for claim in NO_CLAIMS[1:]:
            with self.subTest(claim), self.assertRaises(NoClaim):
                thinned_moves(TALK, claim, start_world(TALK))

    def test_wide(self):
        program = with_steps(("set", 0, 1), ("send", 0, "a", 0), roads=(WIDE,))
        world = ((("main", 0, (0, 0)),), ((("a", 0),),))
        self.assertEqual(thinned_moves(program, None, world), (("hand", 0, 0),))
        self.assertEqual(thinned_moves(program, ("at", "main", 1, 1), world), (("hand", 0, 0), ("lose", 0, 0)))

    def test_random(self):
        rng = random.Random(122)
        fewer = 0
        for program, worlds in small_programs(123, 150, 60):
            for claim in (None, random_claim(rng, program, 2)):
                if claim is not None and not is_claim(program, claim):
                    continue
                for world in worlds:
                    told = thinned_moves(program, claim, world)
                    self.assertEqual(told, thinned_by_words(program, claim, world))
                    fewer += told != moves(program, world)
        self.assertGreater(fewer, 300)


class ThinnedTold(unittest.TestCase):

    def test_a_book(self):
        never = ("on", 0, "b", 2)
        word, worlds = thinned_told(WEAVE, never, 600)
        self.assertEqual(word, "book")
        self.assertLess(len(worlds), len(all_worlds(WEAVE, 600)))
        self.assertEqual(worlds, tuple(sorted(sum(thinned_layers(WEAVE, never), []))))
        self.assertIs(thinned_book_stands(WEAVE, never, worlds), True)

    def test_a_run_of_fewest_thinned_moves(self):
        word, run = thinned_told(WEAVE, ("on", 0, "b", 1), 600)
        self.assertEqual((word, len(run)), ("run", 4))
        self.assertEqual(len(never_told(WEAVE, ("on", 0, "b", 1), 600)[1]), 2)
        self.assertTrue(is_so(worlds_of(WEAVE, run)[-1], ("on", 0, "b", 1)))

    def test_at_the_start(self):
        self.assertEqual(thinned_told(WEAVE, ("at", "one", 0, 1), 600), ("run", ()))

    def test_halts(self):
        self.assertEqual(thinned_told(WEAVE, None, 600)[0], "book")
        full = ((("row", 1, False),),) + WEAVE[1:]
        word, run = thinned_told(full, None, 600)
        self.assertEqual(word, "run")
        self.assertTrue(is_halt(full, worlds_of(full, run)[-1]))

    def test_refused_in_order(self):
        wide = ((WIDE,) + TALK[0],) + TALK[1:]
        for claim in NO_CLAIMS[1:]:
            for program in (TALK, wide):
                for most in (1, 600):
                    with self.subTest(claim), self.assertRaises(NoClaim):
                        thinned_told(program, claim, most)
        for claim in (None, NEVER):
            for most in (1, 600):
                with self.assertRaises(NoWorlds):
                    thinned_told(wide, claim, most)
            with self.assertRaises(TooMany):
                thinned_told(TALK, claim, 1)

    def test_too_many_by_thinned_worlds(self):
        for claim in (None, ("on", 0, "b", 2), ("on", 0, "b", 1), ("at", "one", 0, 1)):
            count = len(sum(thinned_layers(WEAVE, claim), []))
            with self.assertRaises(TooMany):
                thinned_told(WEAVE, claim, count - 1)
            thinned_told(WEAVE, claim, count)
            self.assertLess(count, len(all_worlds(WEAVE, 600)))

    def test_random(self):
        rng = random.Random(124)
        told_as = {"run": 0, "book": 0, "fewer": 0}
        for program, worlds in small_programs(125, 250, 80):
            for claim in (None, random_claim(rng, program)):
                if claim is not None and not is_claim(program, claim):
                    continue
                layers = thinned_layers(program, claim)
                every = tuple(sorted(sum(layers, [])))
                word, told = thinned_told(program, claim, len(every))
                told_as[word] += 1
                told_as["fewer"] += len(every) < len(worlds)
                if word == "book":
                    self.assertEqual(told, every)
                    self.assertIs(thinned_book_stands(program, claim, told), True)
                    continue
                self.assertIs(thinned_book_stands(program, claim, every), False)
                passed = worlds_of(program, told)
                for world, move in zip(passed, told):
                    self.assertIn(move, thinned_by_words(program, claim, world))
                self.assertTrue(is_such(program, claim, passed[-1]))
                for layer in layers[:len(told)]:
                    self.assertFalse(any(is_such(program, claim, world) for world in layer))
        self.assertGreater(min(told_as.values()), 30)


class ThinnedBookStands(unittest.TestCase):

    def test_each_world_is_needed(self):
        for claim in (None, ("on", 0, "b", 2)):
            book = thinned_told(WEAVE, claim, 600)[1]
            self.assertIs(thinned_book_stands(WEAVE, claim, book), True)
            self.assertIs(thinned_book_stands(WEAVE, claim, ()), False)
            for place in range(len(book)):
                self.assertIs(thinned_book_stands(WEAVE, claim, book[:place] + book[place + 1:]), False)

    def test_all_worlds_are_a_thinned_book_too(self):
        self.assertIs(thinned_book_stands(WEAVE, None, tuple(sorted(all_worlds(WEAVE, 600)))), True)

    def test_the_claim_tells_which_moves_count(self):
        book = thinned_told(WEAVE, ("on", 0, "b", 2), 600)[1]
        self.assertIs(thinned_book_stands(WEAVE, ("at", "one", 0, 2), book), False)
        self.assertIs(thinned_book_stands(WEAVE, ("has", "two", 0, 1, 1), book), False)

    def test_what_is_looked_for_is_in_it(self):
        book = tuple(sorted(all_worlds(WEAVE, 600)))
        self.assertIs(thinned_book_stands(WEAVE, ("on", 0, "b", 1), book), False)
        full = ((("row", 1, False),),) + WEAVE[1:]
        self.assertIs(thinned_book_stands(full, None, tuple(sorted(all_worlds(full, 600)))), False)

    def test_what_is_not_rising_or_no_world(self):
        book = thinned_told(WEAVE, None, 600)[1]
        self.assertIs(thinned_book_stands(WEAVE, None, tuple(reversed(book))), False)
        self.assertIs(thinned_book_stands(WEAVE, None, tuple(sorted(book + (start_world(TALK),)))), False)

    def test_wide_is_judged(self):
        program = with_steps(("set", 0, 1), ("pick", 1), roads=(WIDE,), many=1)
        start = start_world(program)
        book = (start, moved(program, start, ("hand", 0, 0)))
        self.assertIs(thinned_book_stands(program, None, book), True)
        self.assertIs(thinned_book_stands(program, None, book[1:]), False)

    def test_refused(self):
        for claim in NO_CLAIMS[1:]:
            with self.subTest(claim), self.assertRaises(NoClaim):
                thinned_book_stands(TALK, claim, ())

    def test_random_sets_of_worlds(self):
        rng = random.Random(126)
        seen = {True: 0, False: 0}
        for program, worlds in small_programs(127, 200, 12):
            for claim in (None, random_claim(rng, program, 1)):
                for k in range(4):
                    some = tuple(sorted(world for world in worlds if rng.random() < 0.8))
                    wanted = start_world(program) in some and not any(
                        is_such(program, claim, world) or any(
                            moved(program, world, move) not in some
                            for move in thinned_by_words(program, claim, world)
                        ) for world in some
                    )
                    self.assertIs(thinned_book_stands(program, claim, some), wanted)
                    seen[wanted] += 1
        self.assertGreater(min(seen.values()), 50)


class Agreement(unittest.TestCase):

    def test_all_three_tell_a_run_or_none_does(self):
        rng = random.Random(128)
        seen = {"run": 0, "book": 0}
        for program, worlds in small_programs(129, 400, 80):
            for claim in (None, random_claim(rng, program, 1), random_claim(rng, program)):
                if claim is not None and not is_claim(program, claim):
                    continue
                word = (halt_told(program, 600) if claim is None else never_told(program, claim, 600))[0]
                self.assertEqual(folded_told(program, claim, 600)[0], word)
                self.assertEqual(thinned_told(program, claim, 600)[0], word)
                seen[word] += 1
        self.assertGreater(min(seen.values()), 100)


class PlainAnswers(unittest.TestCase):

    def test_plain_data_told_again_the_same_and_nothing_changed(self):
        start = start_world(WEAVE)
        claim = ("on", 0, "b", 2)
        book = thinned_told(WEAVE, claim, 600)[1]
        handed = (WEAVE, TALK, start, claim, book, SOME_TIME)
        before = copy.deepcopy(handed)
        for asked in (
            lambda: is_own(WEAVE[1][0][2][0]),
            lambda: is_rising(WEAVE, "one", 0),
            lambda: sees(WEAVE, claim, "one", 0),
            lambda: thinned_moves(WEAVE, claim, start),
            lambda: thinned_told(WEAVE, claim, 600),
            lambda: thinned_told(TALK, SOME_TIME, 600),
            lambda: thinned_told(TALK, None, 600),
            lambda: thinned_book_stands(WEAVE, claim, book),
        ):
            self.assertTrue(tuples_all_down(asked()))
            self.assertEqual(asked(), asked())
            self.assertEqual(handed, before)


if __name__ == "__main__":
    unittest.main()
