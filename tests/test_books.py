"""[7.2]: that a claim never holds, or that there is no halt, told with a run or a book, and what books stand."""

import copy
import random
import unittest

from lettermoat.books import book_stands, halt_book_stands, halt_told, never_told
from lettermoat.claims import holds, is_claim
from lettermoat.errors import NoClaim, NoWorlds, TooMany
from lettermoat.graphs import all_worlds, way_to
from lettermoat.runs import worlds_of
from lettermoat.worlds import start_world

from tests.samples import NEVER, NO_CLAIMS, SOME_TIME, TALK, WIDE, is_halt, random_claim, small_programs
from tests.samples import tuples_all_down, with_steps

# A hand for each road, and on each a letter that the other one waits for: both wait for ever.
CROSSED = (
    (("row", 1, False), ("row", 1, False)),
    (("one", 0, (("wait", 0, ("a", None, 1)), ("send", 1, "b", 0))),
     ("two", 0, (("wait", 1, ("b", None, 1)), ("send", 0, "a", 0)))),
    ("one", "two"),
)

# The second hand may pick to stop at once, so that the first one waits for ever.
MAYBE = (
    (("row", 1, False),),
    (("one", 0, (("wait", 0, ("a", None, 1)),)), ("two", 0, (("pick", 1, 2), ("send", 0, "a", 0)))),
    ("one", "two"),
)


def first_way(program, is_such):
    """The run that 7.2 asks for, or None: that to the first such world in the order in which they are found."""
    for world in all_worlds(program, 600):
        if is_such(world):
            return way_to(program, world, 600)
    return None


class NeverTold(unittest.TestCase):

    def test_a_book_of_all_worlds(self):
        self.assertEqual(never_told(TALK, NEVER, 600), ("book", tuple(sorted(all_worlds(TALK, 600)))))

    def test_a_run_of_fewest_moves(self):
        word, run = never_told(TALK, SOME_TIME, 600)
        self.assertEqual(word, "run")
        self.assertEqual(run, (("hand", 0, 0), ("hand", 1, 1), ("hand", 1, 0), ("hand", 1, 0), ("hand", 0, 4)))
        self.assertTrue(holds(TALK, worlds_of(TALK, run)[-1], SOME_TIME))

    def test_it_holds_at_the_start(self):
        self.assertEqual(never_told(TALK, ("at", "asker", 0, 1), 600), ("run", ()))
        self.assertEqual(never_told(TALK, ("not", NEVER), 600), ("run", ()))

    def test_of_ways_of_fewest_moves_the_least(self):
        program = with_steps(("pick", 1, 2), ("pick", 3), ("pick", 3), ("stop",))
        self.assertEqual(never_told(program, ("at", "main", 3, 1), 600), ("run", (("hand", 0, 0), ("hand", 0, 0))))
        either = ("or", ("at", "main", 2, 1), ("at", "main", 1, 1))
        self.assertEqual(never_told(program, either, 600), ("run", (("hand", 0, 0),)))
        other = with_steps(("pick", 1, 3), ("set", 0, 1), ("pick", 5), ("set", 0, 2), ("pick", 5), ("stop",))
        self.assertEqual(never_told(other, ("at", "main", 5, 1), 600),
                         ("run", (("hand", 0, 0), ("hand", 0, 0), ("hand", 0, 0))))
        self.assertEqual(never_told(other, ("and", ("at", "main", 5, 1), ("has", "main", 0, 2, 1)), 600),
                         ("run", (("hand", 0, 1), ("hand", 0, 0), ("hand", 0, 0))))

    def test_refused_in_order(self):
        wide = ((WIDE,) + TALK[0],) + TALK[1:]
        for claim in NO_CLAIMS:
            for program in (TALK, wide):
                for most in (1, 600):
                    with self.subTest(claim), self.assertRaises(NoClaim):
                        never_told(program, claim, most)
        for most in (1, 600):
            with self.assertRaises(NoWorlds):
                never_told(wide, NEVER, most)
        for most in (1, 14):
            with self.assertRaises(TooMany):
                never_told(TALK, NEVER, most)
        self.assertEqual(never_told(TALK, NEVER, 15)[0], "book")

    def test_too_many_though_a_run_is_short(self):
        with self.assertRaises(TooMany):
            never_told(TALK, ("at", "asker", 0, 1), 14)
        self.assertEqual(never_told(TALK, ("at", "asker", 0, 1), 15), ("run", ()))

    def test_random_programs(self):
        rng = random.Random(21)
        told_as = {"run": 0, "book": 0}
        for program, worlds in small_programs(22, 150, 80):
            claim = random_claim(rng, program)
            if not is_claim(program, claim):
                continue
            word, told = never_told(program, claim, 600)
            told_as[word] += 1
            way = first_way(program, lambda world: holds(program, world, claim))
            if word == "run":
                self.assertEqual(told, way)
                self.assertIs(book_stands(program, claim, tuple(sorted(worlds))), False)
            else:
                self.assertIsNone(way)
                self.assertEqual(told, tuple(sorted(worlds)))
                self.assertIs(book_stands(program, claim, told), True)
        self.assertGreater(min(told_as.values()), 20)


class HaltTold(unittest.TestCase):

    def test_a_run(self):
        self.assertEqual(halt_told(CROSSED, 600), ("run", ()))
        self.assertEqual(halt_told(MAYBE, 600), ("run", (("hand", 1, 1),)))

    def test_a_book(self):
        program = with_steps(("send", 0, "a", 0), ("wait", 0, ("a", 0, 2)), ("stop",))
        self.assertEqual(halt_told(program, 600), ("book", tuple(sorted(all_worlds(program, 600)))))

    def test_all_stopped_is_no_halt(self):
        for program in (with_steps(("stop",)), with_steps(("set", 0, 1))):
            self.assertEqual(halt_told(program, 600)[0], "book")

    def test_a_lose_is_a_move(self):
        waiting = (("send", 0, "a", 0), ("wait", 0, ("b", None, 0)))
        keeps = with_steps(*waiting, roads=(("row", 1, False),))
        self.assertEqual(halt_told(keeps, 600), ("run", (("hand", 0, 0),)))
        loses = with_steps(*waiting, roads=(("row", 1, True),))
        self.assertEqual(halt_told(loses, 600), ("run", (("hand", 0, 0), ("lose", 0, 0))))

    def test_a_send_on_a_full_road_and_a_begin_of_a_seventh(self):
        full = with_steps(("send", 0, "a", 0), ("send", 0, "a", 0), roads=(("row", 1, False),))
        self.assertEqual(halt_told(full, 600), ("run", (("hand", 0, 0),)))
        begins = ((), (("main", 0, (("begin", "main"), ("stop",))),), ("main",) * 4)
        self.assertEqual(halt_told(begins, 600), ("run", (("hand", 0, 0), ("hand", 1, 0))))

    def test_refused_in_order(self):
        wide = ((WIDE,) + TALK[0],) + TALK[1:]
        for most in (1, 600):
            with self.assertRaises(NoWorlds):
                halt_told(wide, most)
        for most in (1, 14):
            with self.assertRaises(TooMany):
                halt_told(TALK, most)
        two = ((), (("main", 0, (("begin", "main"), ("pick", 0))),), ("main",))
        with self.assertRaises(TooMany):
            halt_told(two, 3)
        with self.assertRaises(TooMany):
            halt_told(MAYBE, 1)

    def test_random_programs(self):
        told_as = {"run": 0, "book": 0}
        for program, worlds in small_programs(23, 120, 80):
            word, told = halt_told(program, 600)
            told_as[word] += 1
            way = first_way(program, lambda world: is_halt(program, world))
            self.assertEqual(told, tuple(sorted(worlds)) if way is None else way)
            self.assertIs(halt_book_stands(program, tuple(sorted(worlds))), word == "book")
        self.assertGreater(min(told_as.values()), 10)


class Judges(unittest.TestCase):

    def test_each_world_is_needed(self):
        book = tuple(sorted(all_worlds(TALK, 600)))
        self.assertIs(book_stands(TALK, NEVER, book), True)
        for place in range(len(book)):
            self.assertIs(book_stands(TALK, NEVER, book[:place] + book[place + 1:]), False)
            self.assertIs(halt_book_stands(TALK, book[:place] + book[place + 1:]), False)
        self.assertIs(book_stands(TALK, NEVER, ()), False)
        self.assertIs(halt_book_stands(TALK, ()), False)

    def test_a_claim_that_holds_somewhere(self):
        book = tuple(sorted(all_worlds(TALK, 600)))
        self.assertIs(book_stands(TALK, SOME_TIME, book), False)
        self.assertIs(book_stands(TALK, ("on", 0, "ask", 1), book), False)
        self.assertIs(book_stands(TALK, ("on", 0, "ask", 2), book), True)

    def test_more_worlds_than_those_to_which_runs_lead(self):
        program = with_steps(("pick", 0), ("pick", 1), many=0, roads=())
        start = start_world(program)
        other = ((("main", 1, ()),), ())
        self.assertEqual(all_worlds(program, 600), (start,))
        self.assertIs(book_stands(program, ("at", "main", 2, 1), (start, other)), True)
        self.assertIs(book_stands(program, ("at", "main", 1, 1), (start, other)), False)
        self.assertIs(book_stands(program, ("at", "main", 1, 1), (other,)), False)
        self.assertIs(halt_book_stands(program, (start, other)), True)

    def test_worlds_beside_that_are_not_closed(self):
        program = with_steps(("pick", 0), ("pick", 2), many=0, roads=())
        start = start_world(program)
        other = ((("main", 1, ()),), ())
        behind = ((("main", 2, ()),), ())
        claim = ("at", "main", 0, 2)
        self.assertIs(book_stands(program, claim, (start, other)), False)
        self.assertIs(book_stands(program, claim, (start, other, behind)), True)
        self.assertIs(halt_book_stands(program, (start, other)), False)

    def test_a_halt_in_the_book(self):
        for program in (CROSSED, MAYBE):
            book = tuple(sorted(all_worlds(program, 600)))
            self.assertIs(halt_book_stands(program, book), False)
        program = with_steps(("pick", 0), ("wait", 0, ("a", None, 0)), many=0)
        start = start_world(program)
        waits = ((("main", 1, ()),), ((),))
        self.assertIs(halt_book_stands(program, (start,)), True)
        self.assertIs(halt_book_stands(program, (start, waits)), False)

    def test_what_is_not_rising_or_no_world_is_no_book(self):
        book = tuple(sorted(all_worlds(TALK, 600)))
        self.assertIs(book_stands(TALK, NEVER, tuple(reversed(book))), False)
        self.assertIs(halt_book_stands(MAYBE, tuple(reversed(all_worlds(MAYBE, 600)))), False)
        foreign = tuple(sorted(book + all_worlds(MAYBE, 600)))
        self.assertIs(book_stands(TALK, NEVER, foreign), False)
        self.assertIs(halt_book_stands(TALK, foreign), False)

    def test_programs_with_a_wide_road_are_judged(self):
        program = with_steps(("pick", 0), ("send", 0, "a", 0), roads=(WIDE,), many=0)
        start = start_world(program)
        self.assertIs(book_stands(program, ("at", "main", 1, 1), (start,)), True)
        self.assertIs(book_stands(program, ("at", "main", 0, 1), (start,)), False)
        self.assertIs(halt_book_stands(program, (start,)), True)
        lying = ((("main", 0, ()),), ((("a", 0), ("b", 1)),))
        self.assertIs(book_stands(program, ("at", "main", 1, 1), (start, lying)), False)
        sends = with_steps(("send", 0, "a", 0), roads=(WIDE,), many=0)
        self.assertIs(halt_book_stands(sends, (start_world(sends),)), False)

    def test_refused(self):
        book = tuple(sorted(all_worlds(TALK, 600)))
        for claim in NO_CLAIMS:
            for worlds in (book, ()):
                with self.subTest(claim), self.assertRaises(NoClaim):
                    book_stands(TALK, claim, worlds)

    def test_random_sets_of_worlds(self):
        rng = random.Random(24)
        stood = 0
        for program, worlds in small_programs(25, 80, 12):
            for k in range(10):
                some = [world for world in worlds if rng.random() < 0.8]
                book = tuple(sorted(some))
                closed = start_world(program) in some and len(some) == len(worlds)
                claim = random_claim(rng, program, 1)
                wanted = closed and not any(holds(program, world, claim) for world in some)
                stood += wanted
                self.assertIs(book_stands(program, claim, book), wanted)
                wanted = closed and not any(is_halt(program, world) for world in some)
                self.assertIs(halt_book_stands(program, book), wanted)
        self.assertGreater(stood, 10)


class PlainAnswers(unittest.TestCase):

    def test_plain_data_told_again_the_same_and_nothing_changed(self):
        book = tuple(sorted(all_worlds(TALK, 600)))
        before = copy.deepcopy((TALK, NEVER, book))
        for asked in (
            lambda: never_told(TALK, NEVER, 600),
            lambda: never_told(TALK, SOME_TIME, 600),
            lambda: halt_told(TALK, 600),
            lambda: book_stands(TALK, NEVER, book),
            lambda: halt_book_stands(TALK, book),
        ):
            told = asked()
            self.assertTrue(tuples_all_down(told))
            self.assertEqual(told, asked())
            self.assertEqual((TALK, NEVER, book), before)


if __name__ == "__main__":
    unittest.main()
