"""[11.1] to [11.3]: folded worlds, runs folded and lifted, and what is told and judged of folded worlds."""

import copy
import itertools
import random
import unittest

from lettermoat.books import book_stands, halt_book_stands, halt_told, never_told
from lettermoat.claims import is_claim, is_so
from lettermoat.errors import NoClaim, NoMove, NoWorlds, TooMany
from lettermoat.folding import fold_run, folded, folded_book_stands, folded_told, lifted
from lettermoat.graphs import all_worlds
from lettermoat.runs import worlds_of
from lettermoat.worlds import moved, moves, start_world

from tests.samples import NEVER, NO_CLAIMS, SOME_TIME, TALK, WIDE, is_halt, random_claim, random_program, random_run
from tests.samples import small_programs, tuples_all_down, with_steps

# Four hands of one role, each of which goes two steps.
ALIKE = ((), (("main", 0, (("pick", 1), ("pick", 2))),), ("main",) * 4)

# Hands of two roles, not in the order of their names, on one heap.
MIXED = (
    (("heap", 2, True),),
    (("b", 1, (("send", 0, "x", 1), ("stop",))), ("a", 1, (("wait", 0, ("x", 0, 1)), ("begin", "a"), ("stop",)))),
    ("b", "a", "b"),
)


def folded_worlds_by_words(program):
    found = [folded(start_world(program))[0]]
    for world in found:
        for move in moves(program, world):
            behind = folded(moved(program, world, move))[0]
            if behind not in found:
                found.append(behind)
    return tuple(sorted(found))


def folded_runs_worlds(program, run):
    """The folded worlds that a folded run passes."""
    worlds = [folded(start_world(program))[0]]
    for move in run:
        worlds.append(folded(moved(program, worlds[-1], move))[0])
    return worlds


def stands_by_words(program, claim, worlds):
    if folded(start_world(program))[0] not in worlds:
        return False
    for world in worlds:
        if folded(world)[0] != world or (is_halt(program, world) if claim is None else is_so(world, claim)):
            return False
        if any(folded(moved(program, world, move))[0] not in worlds for move in moves(program, world)):
            return False
    return True


class Folded(unittest.TestCase):

    def test_in_order_already(self):
        world = start_world(TALK)
        self.assertEqual(folded(world), (world, (0, 1)))

    def test_by_name_then_step_then_registers(self):
        hands = (("b", 0, (0,)), ("a", 2, (1,)), ("a", 1, (2,)), ("a", 2, (0,)))
        self.assertEqual(folded((hands, ((),))), (((hands[2], hands[3], hands[1], hands[0]), ((),)), (2, 3, 1, 0)))
        self.assertEqual(folded(((("a", 10, (0,)), ("a", 9, (0,))), ())),
                         (((("a", 9, (0,)), ("a", 10, (0,))), ()), (1, 0)))

    def test_of_like_hands_the_lesser_first(self):
        hands = (("b", 0, ()), ("a", 0, ()), ("b", 0, ()), ("a", 0, ()), ("b", 0, ()), ("a", 0, ()))
        self.assertEqual(folded((hands, ()))[1], (1, 3, 5, 0, 2, 4))

    def test_loads_stay(self):
        loads = ((("z", 1), ("a", 0)), (("a", 0),))
        self.assertEqual(folded(((("b", 0, ()), ("a", 0, ())), loads))[0][1], loads)

    def test_one_hand(self):
        world = ((("a", 0, ()),), ())
        self.assertEqual(folded(world), (world, (0,)))

    def test_whatever_the_order_the_folded_world_is_one(self):
        hands = (("a", 0, (1,)), ("a", 0, (2,)), ("a", 1, (0,)), ("b", 0, ()))
        for some in itertools.permutations(hands):
            told, row = folded((some, ((),)))
            self.assertEqual(told, (hands, ((),)))
            self.assertEqual(tuple(some[k] for k in row), hands)

    def test_random_worlds(self):
        unfolded = 0
        for program, worlds in small_programs(111, 60, 60):
            for world in worlds:
                told, row = folded(world)
                self.assertEqual(sorted(row), list(range(len(world[0]))))
                self.assertEqual(told[0], tuple(world[0][k] for k in row))
                self.assertEqual(told[1], world[1])
                for place in range(len(row) - 1):
                    self.assertLessEqual(told[0][place], told[0][place + 1])
                    if told[0][place] == told[0][place + 1]:
                        self.assertLess(row[place], row[place + 1])
                self.assertEqual(folded(told), (told, tuple(range(len(row)))))
                unfolded += told != world
        self.assertGreater(unfolded, 50)


class FoldRun(unittest.TestCase):

    def test_places_and_loses(self):
        run = (("hand", 2, 0), ("hand", 0, 0), ("lose", 0, 0), ("hand", 1, 1), ("hand", 1, 0), ("hand", 3, 0))
        with self.assertRaises(NoMove):
            fold_run(MIXED, run)
        self.assertEqual(fold_run(MIXED, run[:5]), (
            ("hand", 2, 0), ("hand", 1, 0), ("lose", 0, 0), ("hand", 0, 1), ("hand", 0, 0),
        ))

    def test_alike(self):
        self.assertEqual(fold_run(ALIKE, (("hand", 0, 0), ("hand", 0, 0), ("hand", 1, 0))),
                         (("hand", 0, 0), ("hand", 3, 0), ("hand", 0, 0)))
        self.assertEqual(lifted(ALIKE, (("hand", 0, 0), ("hand", 3, 0), ("hand", 0, 0))),
                         (("hand", 0, 0), ("hand", 0, 0), ("hand", 1, 0)))

    def test_empty(self):
        self.assertEqual(fold_run(TALK, ()), ())
        self.assertEqual(lifted(TALK, ()), ())

    def test_lifted(self):
        self.assertEqual(lifted(MIXED, (("hand", 1, 0), ("hand", 0, 1), ("hand", 0, 0))),
                         (("hand", 0, 0), ("hand", 1, 1), ("hand", 1, 0)))

    def test_fold_run_refused(self):
        for run in ((("hand", 4, 0),), (("hand", -1, 0),), (("hand", 0, 1),), (("lose", 0, 0),),
                    (("hand", 0, 0),) * 3):
            with self.subTest(run), self.assertRaises(NoMove):
                fold_run(ALIKE, run)

    def test_lifted_refused(self):
        for run in ((("hand", 4, 0),), (("hand", -1, 0),), (("hand", 0, 1),), (("lose", 0, 0),),
                    (("hand", 0, 0), ("hand", 3, 0), ("hand", 3, 0))):
            with self.subTest(run), self.assertRaises(NoMove):
                lifted(ALIKE, run)
        self.assertEqual(len(lifted(ALIKE, (("hand", 0, 0),) * 8)), 8)

    def test_there_and_back(self):
        rng = random.Random(112)
        moved_places = 0
        for k in range(300):
            program = random_program(rng)
            run = random_run(rng, program, 15)
            places = fold_run(program, run)
            moved_places += places != run
            self.assertEqual(lifted(program, places), run)
            self.assertEqual(folded_runs_worlds(program, places),
                             [folded(world)[0] for world in worlds_of(program, run)])
        self.assertGreater(moved_places, 60)

    def test_a_folded_run_lifted_and_folded_tells_its_worlds(self):
        rng = random.Random(113)
        for k in range(300):
            program = random_program(rng)
            world = folded(start_world(program))[0]
            run = []
            for count in range(15):
                found = moves(program, world)
                if found:
                    run.append(rng.choice(found))
                    world = folded(moved(program, world, run[-1]))[0]
            told = lifted(program, tuple(run))
            self.assertEqual([folded(each)[0] for each in worlds_of(program, told)], folded_runs_worlds(program, run))


class FoldedTold(unittest.TestCase):

    def test_a_book_of_all_folded_worlds(self):
        word, worlds = folded_told(ALIKE, ("at", "main", 2, 5), 600)
        self.assertEqual((word, len(worlds)), ("book", 15))
        self.assertEqual(len(all_worlds(ALIKE, 600)), 81)
        self.assertEqual(worlds, folded_worlds_by_words(ALIKE))

    def test_a_run_of_fewest_moves(self):
        word, run = folded_told(ALIKE, ("at", "main", 2, 2), 600)
        self.assertEqual((word, len(run)), ("run", 4))
        self.assertTrue(is_so(worlds_of(ALIKE, run)[-1], ("at", "main", 2, 2)))

    def test_at_the_start(self):
        self.assertEqual(folded_told(ALIKE, ("at", "main", 0, 4), 600), ("run", ()))

    def test_halts(self):
        self.assertEqual(folded_told(ALIKE, None, 600), ("book", folded_worlds_by_words(ALIKE)))
        word, run = folded_told(MIXED, None, 600)
        self.assertEqual((word, len(run)), ("run", len(halt_told(MIXED, 600)[1])))
        self.assertTrue(is_halt(MIXED, worlds_of(MIXED, run)[-1]))

    def test_refused_in_order(self):
        wide = ((WIDE,) + TALK[0],) + TALK[1:]
        for claim in NO_CLAIMS[1:]:
            for program in (TALK, wide):
                for most in (1, 600):
                    with self.subTest(claim), self.assertRaises(NoClaim):
                        folded_told(program, claim, most)
        for claim in (None, NEVER):
            for most in (1, 600):
                with self.assertRaises(NoWorlds):
                    folded_told(wide, claim, most)
            for most in (1, 14):
                with self.assertRaises(TooMany):
                    folded_told(TALK, claim, most)
        self.assertEqual(folded_told(TALK, NEVER, 15)[0], "book")

    def test_too_many_by_folded_worlds(self):
        for claim in (None, ("at", "main", 2, 5), ("at", "main", 0, 4), ("at", "main", 2, 1)):
            with self.assertRaises(TooMany):
                folded_told(ALIKE, claim, 14)
            folded_told(ALIKE, claim, 15)
        with self.assertRaises(TooMany):
            never_told(ALIKE, ("at", "main", 2, 5), 80)

    def test_random_programs(self):
        rng = random.Random(114)
        told_as = {"run": 0, "book": 0, "fewer": 0}
        for program, worlds in small_programs(115, 200, 80):
            every = folded_worlds_by_words(program)
            self.assertEqual(every, tuple(sorted({folded(world)[0] for world in worlds})))
            told_as["fewer"] += len(every) < len(worlds)
            for claim in (None, random_claim(rng, program)):
                if claim is not None and not is_claim(program, claim):
                    continue
                word, told = folded_told(program, claim, len(every))
                told_as[word] += 1
                plain = halt_told(program, 600) if claim is None else never_told(program, claim, 600)
                self.assertEqual(word, plain[0])
                if word == "run":
                    end = worlds_of(program, told)[-1]
                    self.assertEqual(len(told), len(plain[1]))
                    self.assertTrue(is_halt(program, end) if claim is None else is_so(end, claim))
                    self.assertIs(folded_book_stands(program, claim, every), False)
                else:
                    self.assertEqual(told, every)
                    self.assertIs(folded_book_stands(program, claim, told), True)
        self.assertGreater(min(told_as.values()), 20)


class FoldedBookStands(unittest.TestCase):

    def test_each_world_is_needed(self):
        claim = ("at", "main", 2, 5)
        book = folded_worlds_by_words(ALIKE)
        for asked in (claim, None):
            self.assertIs(folded_book_stands(ALIKE, asked, book), True)
            self.assertIs(folded_book_stands(ALIKE, asked, ()), False)
            for place in range(len(book)):
                self.assertIs(folded_book_stands(ALIKE, asked, book[:place] + book[place + 1:]), False)

    def test_a_world_that_is_not_folded(self):
        book = tuple(sorted(all_worlds(ALIKE, 600)))
        claim = ("at", "main", 2, 5)
        self.assertIs(book_stands(ALIKE, claim, book), True)
        self.assertIs(folded_book_stands(ALIKE, claim, book), False)
        self.assertIs(halt_book_stands(ALIKE, book), True)
        self.assertIs(folded_book_stands(ALIKE, None, book), False)
        self.assertIs(book_stands(ALIKE, claim, folded_worlds_by_words(ALIKE)), False)

    def test_the_folded_start(self):
        book = folded_worlds_by_words(MIXED)
        start = start_world(MIXED)
        self.assertNotIn(start, book)
        self.assertIs(folded_book_stands(MIXED, ("at", "b", 1, 3), book), True)
        self.assertIs(folded_book_stands(MIXED, ("at", "b", 1, 3), tuple(sorted(book + (start,)))), False)

    def test_what_is_looked_for_is_in_it(self):
        book = folded_worlds_by_words(MIXED)
        self.assertIs(folded_book_stands(MIXED, None, book), False)
        self.assertIs(folded_book_stands(MIXED, ("at", "b", 1, 2), book), False)
        self.assertIs(folded_book_stands(ALIKE, ("at", "main", 0, 4), folded_worlds_by_words(ALIKE)), False)

    def test_more_worlds_than_those_to_which_runs_lead(self):
        program = with_steps(("pick", 0), ("pick", 1), many=0, roads=())
        start = start_world(program)
        other = ((("main", 1, ()),), ())
        for claim in (None, ("at", "main", 2, 1)):
            self.assertIs(folded_book_stands(program, claim, (start, other)), True)
        self.assertIs(folded_book_stands(program, ("at", "main", 1, 1), (start, other)), False)

    def test_what_is_not_rising_or_no_world(self):
        book = folded_worlds_by_words(ALIKE)
        self.assertIs(folded_book_stands(ALIKE, None, tuple(reversed(book))), False)
        self.assertIs(folded_book_stands(ALIKE, None, tuple(sorted(book + (start_world(TALK),)))), False)

    def test_wide_is_judged(self):
        program = with_steps(("pick", 0), ("send", 0, "a", 0), roads=(WIDE,), many=0)
        for claim in (None, ("at", "main", 1, 1)):
            self.assertIs(folded_book_stands(program, claim, (start_world(program),)), True)
        self.assertIs(folded_book_stands(program, ("at", "main", 0, 1), (start_world(program),)), False)

    def test_refused(self):
        for claim in NO_CLAIMS[1:]:
            with self.subTest(claim), self.assertRaises(NoClaim):
                folded_book_stands(TALK, claim, ())

    def test_random_sets_of_worlds(self):
        rng = random.Random(116)
        seen = {True: 0, False: 0}
        for program, worlds in small_programs(117, 200, 12):
            every = folded_worlds_by_words(program)
            for claim in (None, random_claim(rng, program, 1)):
                for pool in (every, every, worlds):
                    some = tuple(sorted(world for world in pool if rng.random() < 0.9))
                    wanted = stands_by_words(program, claim, some)
                    self.assertIs(folded_book_stands(program, claim, some), wanted)
                    seen[wanted] += 1
        self.assertGreater(min(seen.values()), 50)


class PlainAnswers(unittest.TestCase):

    def test_plain_data_told_again_the_same_and_nothing_changed(self):
        run = random_run(random.Random(118), MIXED, 10)
        start = start_world(MIXED)
        book = folded_worlds_by_words(MIXED)
        claim = ("at", "b", 1, 3)
        handed = (MIXED, TALK, run, start, book, claim, SOME_TIME)
        before = copy.deepcopy(handed)
        for asked in (
            lambda: folded(start),
            lambda: fold_run(MIXED, run),
            lambda: lifted(MIXED, fold_run(MIXED, run)),
            lambda: folded_told(MIXED, claim, 600),
            lambda: folded_told(MIXED, None, 600),
            lambda: folded_told(TALK, SOME_TIME, 600),
            lambda: folded_book_stands(MIXED, claim, book),
        ):
            self.assertTrue(tuples_all_down(asked()))
            self.assertEqual(asked(), asked())
            self.assertEqual(handed, before)


if __name__ == "__main__":
    unittest.main()
