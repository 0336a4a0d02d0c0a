"""[9.1], [9.3], [9.4]: who can move, worlds that rest, fair loops, and lassos."""

import copy
import random
import unittest

from lettermoat.claims import is_claim, is_so
from lettermoat.errors import NoClaim, NoMove
from lettermoat.graphs import all_worlds
from lettermoat.knots import fair_loop, helper_of, is_bare, knots_of
from lettermoat.loops import can_move, is_fair, lasso_stands, rests
from lettermoat.runs import end_of, worlds_of
from lettermoat.worlds import moved, moves, start_world

from tests.samples import NO_CLAIMS, SOME_TIME, TALK, WIDE, random_claim, random_run, small_programs
from tests.samples import tuples_all_down, with_steps

# Two hands go round, each by itself; a third one may go on at any time, and then stops.
ROUNDS = (
    (),
    (("round", 0, (("pick", 1), ("pick", 0))), ("once", 1, (("set", 0, 1),))),
    ("round", "round", "once"),
)

# A letter is sent again and again, and may be lost; the taker takes it, if it is there, and lets it go.
LEAKY = (
    (("row", 1, True),),
    (("sender", 0, (("send", 0, "a", 0), ("pick", 0))), ("taker", 0, (("wait", 0, ("a", None, 0)),))),
    ("sender", "taker"),
)

# A hand sends once on a road that loses; it waits then for what never comes.
SENT = with_steps(("send", 0, "a", 0), ("wait", 0, ("b", None, 2)), roads=(("row", 1, True),), many=0)

# An asker asks until the answer is yes; the helper may say no for ever.
STUBBORN = (
    (("row", 1, False), ("row", 1, False)),
    (("asker", 0, (("send", 0, "ask", 0), ("wait", 1, ("no", None, 0), ("yes", None, 2)), ("stop",))),
     ("helper", 0, (("wait", 0, ("ask", None, 1)), ("pick", 2, 4), ("send", 1, "no", 0), ("pick", 0),
                    ("send", 1, "yes", 0), ("pick", 0)))),
    ("asker", "helper"),
)

ONE = ("hand", 0, 0)
TWO = ("hand", 1, 0)
THREE = ("hand", 2, 0)

# The asker asks, the helper says no, the asker takes it, and the helper is ready again.
NO_AGAIN = (ONE, TWO, TWO, TWO, ("hand", 0, 0), TWO)


def is_fair_by_words(program, world, loop):
    """9.1, word for word; None where it can't be done."""
    passed = [world]
    for move in loop:
        if move not in moves(program, passed[-1]):
            return None
        passed.append(moved(program, passed[-1], move))
    if not loop or passed[-1] != world:
        return False
    for k in range(len(world[0])):
        always = all(any(move[:2] == ("hand", k) for move in moves(program, each)) for each in passed)
        if always and not any(move[:2] == ("hand", k) for move in loop):
            return False
    return True


def stands_by_words(program, p, q, stem, loop):
    """9.4 of lassos, word for word."""
    worlds = [start_world(program)]
    for move in stem:
        if move not in moves(program, worlds[-1]):
            return False
        worlds.append(moved(program, worlds[-1], move))
    good = any(
        (p is None or is_so(worlds[place], p)) and not any(is_so(world, q) for world in worlds[place:])
        for place in range(len(worlds))
    )
    if not loop:
        return good and not any(move[0] == "hand" for move in moves(program, worlds[-1]))
    if not good or not is_fair_by_words(program, worlds[-1], loop):
        return False
    world = worlds[-1]
    for move in loop:
        world = moved(program, world, move)
        if is_so(world, q):
            return False
    return True


class CanMove(unittest.TestCase):

    def test_hand_by_hand(self):
        start = start_world(TALK)
        self.assertIs(can_move(TALK, start, 0), True)
        self.assertIs(can_move(TALK, start, 1), False)
        asked = moved(TALK, start, ONE)
        self.assertIs(can_move(TALK, asked, 0), False)
        self.assertIs(can_move(TALK, asked, 1), True)

    def test_stopped(self):
        for program in (with_steps(("stop",)), with_steps(("pick", 1), many=0)):
            world = all_worlds(program, 600)[-1]
            self.assertIs(can_move(program, world, 0), False)

    def test_a_full_road_and_a_seventh_hand(self):
        full = with_steps(("send", 0, "a", 0), ("send", 0, "a", 0), roads=(("row", 1, False),))
        self.assertIs(can_move(full, start_world(full), 0), True)
        self.assertIs(can_move(full, moved(full, start_world(full), ONE), 0), False)
        begins = ((), (("main", 0, (("begin", "main"), ("stop",))),), ("main",) * 4)
        world = start_world(begins)
        self.assertIs(can_move(begins, world, 3), True)
        world = moved(begins, moved(begins, world, ONE), TWO)
        self.assertEqual(len(world[0]), 6)
        self.assertIs(can_move(begins, world, 3), False)

    def test_a_lose_is_no_hands_move(self):
        sent = moved(SENT, start_world(SENT), ONE)
        self.assertEqual(moves(SENT, sent), (("lose", 0, 0),))
        self.assertIs(can_move(SENT, sent, 0), False)

    def test_refused(self):
        for k in (-1, 2, 6, 10 ** 9):
            with self.assertRaises(NoMove):
                can_move(TALK, start_world(TALK), k)

    def test_wide(self):
        program = with_steps(("send", 0, "a", 0), roads=(WIDE,), many=0)
        world = ((("main", 0, ()),), ((("a", 0),) * 50,))
        self.assertIs(can_move(program, world, 0), True)


class Rests(unittest.TestCase):

    def test_worlds(self):
        self.assertIs(rests(TALK, start_world(TALK)), False)
        self.assertIs(rests(SENT, start_world(SENT)), False)

    def test_a_letter_may_be_lost_in_it(self):
        sent = moved(SENT, start_world(SENT), ONE)
        self.assertIs(rests(SENT, sent), True)
        self.assertIs(rests(SENT, moved(SENT, sent, ("lose", 0, 0))), True)

    def test_all_stopped(self):
        self.assertIs(rests(with_steps(("stop",)), start_world(with_steps(("stop",)))), True)

    def test_one_hand_that_can_move_is_enough(self):
        world = start_world(ROUNDS)
        self.assertIs(rests(ROUNDS, moved(ROUNDS, world, THREE)), False)

    def test_random_programs(self):
        seen = {True: 0, False: 0}
        for program, worlds in small_programs(91, 60, 60):
            for world in worlds:
                hands = [move for move in moves(program, world) if move[0] == "hand"]
                self.assertIs(rests(program, world), not hands)
                seen[not hands] += 1
                for k in range(len(world[0])):
                    self.assertIs(can_move(program, world, k), any(move[1] == k for move in hands))
        self.assertGreater(min(seen.values()), 50)


class IsFair(unittest.TestCase):

    def test_a_fair_loop(self):
        program = ROUNDS[:2] + (("round", "round"),)
        start = start_world(program)
        for loop in ((ONE, ONE, TWO, TWO), (ONE, TWO, ONE, TWO), (ONE, ONE, TWO, TWO) * 3):
            self.assertIs(is_fair(program, start, loop), True)

    def test_a_hand_that_is_left_out(self):
        program = ROUNDS[:2] + (("round", "round"),)
        start = start_world(program)
        self.assertIs(is_fair(program, start, (ONE, ONE)), False)
        self.assertIs(is_fair(program, start, (TWO, TWO)), False)
        self.assertIs(is_fair(ROUNDS, start_world(ROUNDS), (ONE, TWO, ONE, TWO)), False)
        ended = moved(ROUNDS, start_world(ROUNDS), THREE)
        self.assertIs(is_fair(ROUNDS, ended, (ONE, TWO, ONE, TWO)), True)

    def test_a_hand_that_can_move_in_some_worlds_alone(self):
        start = start_world(LEAKY)
        self.assertIs(is_fair(LEAKY, start, (ONE, ("lose", 0, 0), ONE)), True)
        self.assertIs(is_fair(LEAKY, start, (ONE, ("hand", 1, 0), ONE)), True)

    def test_no_loop(self):
        start = start_world(ROUNDS)
        self.assertIs(is_fair(ROUNDS, start, ()), False)
        self.assertIs(is_fair(ROUNDS, start, (ONE,)), False)
        self.assertIs(is_fair(ROUNDS, start, (ONE, ONE, TWO, TWO, THREE)), False)
        resting = with_steps(("stop",))
        self.assertIs(is_fair(resting, start_world(resting), ()), False)

    def test_a_run_that_begins_hands_is_no_loop(self):
        program = ((), (("main", 0, (("begin", "main"), ("pick", 0))),), ("main",))
        self.assertIs(is_fair(program, start_world(program), (ONE, ONE)), False)
        self.assertIs(is_fair(program, start_world(program), (ONE, TWO)), False)

    def test_refused(self):
        start = start_world(ROUNDS)
        for loop in ((("hand", 3, 0),), (("hand", 0, 1),), (ONE, ("lose", 0, 0)), (ONE, ONE, THREE, THREE),
                     (("hand", -1, 0),)):
            with self.subTest(loop), self.assertRaises(NoMove):
                is_fair(ROUNDS, start, loop)

    def test_at_a_world_to_which_no_run_leads(self):
        program = with_steps(("stop",), ("pick", 1), many=0, roads=())
        self.assertIs(is_fair(program, ((("main", 1, ()),), ()), (ONE,)), True)

    def test_fair_loops_of_knots(self):
        loops = 0
        for program, worlds in small_programs(92, 150, 40):
            for knot in knots_of(program, tuple(sorted(worlds))):
                if not is_bare(program, knot) and helper_of(program, knot) is None:
                    world, loop = fair_loop(program, knot)
                    self.assertIs(is_fair(program, world, loop), True)
                    loops += 1
        self.assertGreater(loops, 30)

    def test_random_loops(self):
        rng = random.Random(93)
        seen = {True: 0, False: 0, None: 0}
        for program, worlds in small_programs(94, 300, 25):
            for k in range(6):
                run = random_run(rng, program, 12)
                passed = worlds_of(program, run)
                first = rng.randrange(len(passed))
                last = rng.choice([place for place in range(first, len(passed)) if passed[place] == passed[first]])
                loop = run[first:last] + (("hand", 0, 1),) * (rng.random() < 0.1)
                wanted = is_fair_by_words(program, passed[first], loop)
                seen[wanted] += 1
                if wanted is None:
                    with self.assertRaises(NoMove):
                        is_fair(program, passed[first], loop)
                else:
                    self.assertIs(is_fair(program, passed[first], loop), wanted)
        self.assertGreater(min(seen.values()), 50)


class LassoStands(unittest.TestCase):

    def test_a_loop_in_which_nothing_comes(self):
        self.assertEqual(end_of(STUBBORN, start_world(STUBBORN), NO_AGAIN), start_world(STUBBORN))
        yes = ("at", "asker", 2, 1)
        asked = ("on", 0, "ask", 1)
        for p in (None, asked):
            self.assertIs(lasso_stands(STUBBORN, p, yes, NO_AGAIN, NO_AGAIN), True)
            self.assertIs(lasso_stands(STUBBORN, p, yes, (ONE,), NO_AGAIN[1:] + (ONE,)), True)
        self.assertIs(lasso_stands(STUBBORN, None, yes, (), NO_AGAIN), True)

    def test_p_must_be_on_the_stem(self):
        yes = ("at", "asker", 2, 1)
        asked = ("on", 0, "ask", 1)
        self.assertIs(lasso_stands(STUBBORN, asked, yes, (), NO_AGAIN), False)
        self.assertIs(lasso_stands(STUBBORN, asked, yes, (ONE,), NO_AGAIN[1:] + (ONE,)), True)

    def test_q_behind_p_spoils_it(self):
        no = ("on", 1, "no", 1)
        self.assertIs(lasso_stands(STUBBORN, None, no, (), NO_AGAIN), False)
        yes = ("at", "asker", 2, 1)
        self.assertIs(lasso_stands(STUBBORN, ("on", 0, "ask", 1), ("at", "helper", 1, 1), NO_AGAIN, ()), False)
        self.assertIs(lasso_stands(STUBBORN, yes, yes, NO_AGAIN, NO_AGAIN), False)

    def test_q_ahead_of_p_does_not(self):
        program = with_steps(("pick", 1), ("pick", 2), ("pick", 2), many=0, roads=())
        stem = (ONE, ONE)
        self.assertIs(lasso_stands(program, ("at", "main", 2, 1), ("at", "main", 1, 1), stem, (ONE,)), True)
        self.assertIs(lasso_stands(program, ("at", "main", 0, 1), ("at", "main", 1, 1), stem, (ONE,)), False)
        self.assertIs(lasso_stands(program, None, ("at", "main", 1, 1), stem, (ONE,)), True)
        self.assertIs(lasso_stands(program, None, ("at", "main", 2, 1), stem, (ONE,)), False)

    def test_p_again_behind_q(self):
        program = with_steps(("pick", 1), ("pick", 0, 2), ("pick", 2), many=0, roads=())
        p = ("at", "main", 0, 1)
        q = ("at", "main", 1, 1)
        self.assertIs(lasso_stands(program, p, q, (ONE, ONE), ()), False)
        self.assertIs(lasso_stands(program, ("not", q), q, (ONE, ("hand", 0, 1)), (ONE,)), True)
        self.assertIs(lasso_stands(program, p, q, (ONE, ("hand", 0, 1)), (ONE,)), False)

    def test_a_world_that_rests(self):
        never = ("at", "main", 2, 1)
        self.assertIs(lasso_stands(SENT, None, never, (ONE,), ()), True)
        self.assertIs(lasso_stands(SENT, None, never, (ONE, ("lose", 0, 0)), ()), True)
        self.assertIs(lasso_stands(SENT, ("on", 0, "a", 1), never, (ONE, ("lose", 0, 0)), ()), True)
        self.assertIs(lasso_stands(SENT, ("on", 0, "a", 2), never, (ONE,), ()), False)
        self.assertIs(lasso_stands(SENT, None, ("at", "main", 1, 1), (ONE,), ()), False)

    def test_an_end_that_does_not_rest(self):
        never = ("at", "main", 2, 1)
        self.assertIs(lasso_stands(SENT, None, never, (), ()), False)
        self.assertIs(lasso_stands(STUBBORN, None, ("at", "asker", 2, 1), NO_AGAIN, ()), False)

    def test_a_loop_that_is_not_fair_or_none(self):
        never = ("at", "once", 1, 2)
        self.assertIs(lasso_stands(ROUNDS, None, never, (), (ONE, TWO, ONE, TWO)), False)
        self.assertIs(lasso_stands(ROUNDS, None, never, (THREE,), (ONE, TWO, ONE, TWO)), True)
        self.assertIs(lasso_stands(ROUNDS, None, never, (THREE,), (ONE, TWO, ONE)), False)
        self.assertIs(lasso_stands(ROUNDS, None, ("at", "once", 1, 1), (THREE,), (ONE, TWO, ONE, TWO)), False)

    def test_q_in_the_loop_alone(self):
        program = with_steps(("pick", 1), ("pick", 0), many=0, roads=())
        self.assertIs(lasso_stands(program, None, ("at", "main", 1, 1), (), (ONE, ONE)), False)
        self.assertIs(lasso_stands(program, None, ("at", "main", 2, 1), (), (ONE, ONE)), True)

    def test_runs_that_cant_be_done(self):
        never = ("at", "once", 1, 2)
        good = (ONE, TWO, ONE, TWO)
        for stem, loop in (((THREE, THREE), good), ((("hand", 3, 0),), good), ((THREE,), good + (THREE,)),
                           ((THREE,), (("lose", 0, 0),)), ((("lose", 0, 0), THREE), good), ((("hand", 0, 1),), ())):
            self.assertIs(lasso_stands(ROUNDS, None, never, stem, loop), False)

    def test_wide(self):
        program = with_steps(("send", 0, "a", 0), ("pick", 0), roads=(WIDE,), many=0)
        self.assertIs(lasso_stands(program, None, ("at", "main", 2, 1), (), (ONE, ("lose", 0, 0), ONE)), True)
        self.assertIs(lasso_stands(program, None, ("at", "main", 2, 1), (), (ONE, ONE)), False)
        waits = with_steps(("wait", 0, ("a", None, 1)), roads=(WIDE,), many=0)
        self.assertIs(lasso_stands(waits, None, ("at", "main", 1, 1), (), ()), True)

    def test_refused(self):
        for runs in (((), ()), ((("hand", 9, 9),), ())):
            for claim in NO_CLAIMS:
                with self.subTest(claim), self.assertRaises(NoClaim):
                    lasso_stands(TALK, None, claim, *runs)
                if claim is not None:
                    with self.subTest(claim), self.assertRaises(NoClaim):
                        lasso_stands(TALK, claim, SOME_TIME, *runs)

    def test_random_lassos(self):
        rng = random.Random(95)
        seen = {True: 0, False: 0}
        for program, worlds in small_programs(96, 300, 25):
            p = random_claim(rng, program, 2)
            q = random_claim(rng, program, 2)
            if not is_claim(program, p) or not is_claim(program, q):
                continue
            for k in range(10):
                run = random_run(rng, program, 12)
                passed = worlds_of(program, run)
                first = rng.randrange(len(passed))
                last = rng.choice([place for place in range(first, len(passed)) if passed[place] == passed[first]])
                told = (rng.choice([p, None]), q, run[:first], run[first:last])
                wanted = stands_by_words(program, *told)
                self.assertIs(lasso_stands(program, *told), wanted)
                seen[wanted] += 1
        self.assertGreater(min(seen.values()), 100)


class PlainAnswers(unittest.TestCase):

    def test_told_again_the_same_and_nothing_changed(self):
        start = start_world(STUBBORN)
        yes = ("at", "asker", 2, 1)
        handed = (STUBBORN, start, yes, NO_AGAIN)
        before = copy.deepcopy(handed)
        for asked in (
            lambda: can_move(STUBBORN, start, 0),
            lambda: rests(STUBBORN, start),
            lambda: is_fair(STUBBORN, start, NO_AGAIN),
            lambda: lasso_stands(STUBBORN, None, yes, NO_AGAIN, NO_AGAIN),
        ):
            told = asked()
            self.assertTrue(tuples_all_down(told))
            self.assertIs(told, asked())
            self.assertEqual(handed, before)


if __name__ == "__main__":
    unittest.main()
