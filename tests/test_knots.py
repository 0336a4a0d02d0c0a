"""[9.1] to [9.3], what they say of knots: knots, bare ones, helpers, and fair loops through knots."""

import copy
import random
import unittest

from lettermoat.errors import NoWitness
from lettermoat.graphs import ahead, all_worlds
from lettermoat.knots import fair_loop, helper_of, is_bare, knots_of
from lettermoat.worlds import choices, moved, start_world

from tests.samples import TALK, small_programs, tuples_all_down, with_steps

# The first hand goes round for ever; the second one may go on at any time, and then stops.
BESIDE = ((), (("round", 0, (("pick", 0),)), ("once", 1, (("set", 0, 1),))), ("round", "once"))

# A letter is sent and lost again and again.
LEAKY = with_steps(("send", 0, "a", 0), ("pick", 0), roads=(("row", 1, True),), many=0)


def at(steps, names, loads=()):
    return (tuple((name, step, ()) for name, step in zip(names, steps)), loads)


def reached(program, worlds, world):
    found = [world]
    for each in found:
        found += [behind for behind in dict.fromkeys(pair[1] for pair in ahead(program, each))
                  if behind in worlds and behind not in found]
    return set(found)


def knots_by_reach(program, worlds):
    reach = {world: reached(program, worlds, world) for world in worlds}
    return tuple(sorted({
        tuple(sorted(other for other in reach[world] if world in reach[other])) for world in worlds
    }))


def is_helper(program, knot, k):
    for world in knot:
        if not choices(program, world, k):
            return False
        for choice in choices(program, world, k):
            if moved(program, world, ("hand", k, choice)) in knot:
                return False
    return True


class Knots(unittest.TestCase):

    def check_loop(self, program, knot):
        world, loop = fair_loop(program, knot)
        passed = [world]
        for move in loop:
            passed.append(moved(program, passed[-1], move))
        self.assertGreater(len(loop), 0)
        self.assertEqual(passed[-1], world)
        self.assertEqual(set(passed), set(knot))
        for k in range(len(world[0])):
            if all(choices(program, each, k) for each in passed):
                self.assertTrue(any(move[:2] == ("hand", k) for move in loop), k)

    def refused(self, program, knot):
        with self.assertRaises(NoWitness):
            fair_loop(program, knot)


class KnotsOf(Knots):

    def test_none(self):
        self.assertEqual(knots_of(TALK, ()), ())

    def test_single_worlds(self):
        program = with_steps(("set", 0, 1), ("stop",))
        worlds = tuple(sorted(all_worlds(program, 600)))
        self.assertEqual(knots_of(program, worlds), tuple((world,) for world in worlds))

    def test_a_round(self):
        program = with_steps(("pick", 1), ("pick", 2), ("pick", 0, 3), many=0, roads=())
        first, second, third, end = sorted(all_worlds(program, 600))
        self.assertEqual(knots_of(program, (first, second, third, end)), ((first, second, third), (end,)))

    def test_moves_among_the_worlds_told_alone(self):
        program = with_steps(("pick", 1), ("pick", 2), ("pick", 0, 3), many=0, roads=())
        first, second, third, end = sorted(all_worlds(program, 600))
        self.assertEqual(knots_of(program, (first, third, end)), ((first,), (third,), (end,)))
        self.assertEqual(knots_of(program, (second, third)), ((second,), (third,)))

    def test_loses_count(self):
        names = ("main",)
        knot = tuple(sorted(all_worlds(LEAKY, 600)))
        self.assertEqual(knot, (
            at((0,), names, ((),)), at((0,), names, ((("a", 0),),)),
            at((1,), names, ((),)), at((1,), names, ((("a", 0),),)),
        ))
        self.assertEqual(knots_of(LEAKY, knot), (knot,))

    def test_two_rounds_and_a_way_between(self):
        program = with_steps(("pick", 1), ("pick", 0, 2), ("pick", 3), ("pick", 2), many=0, roads=())
        worlds = tuple(sorted(all_worlds(program, 600)))
        self.assertEqual(knots_of(program, worlds), (worlds[:2], worlds[2:]))

    def test_two_rounds_that_share_a_world(self):
        program = with_steps(("pick", 1, 2), ("pick", 0), ("pick", 0), many=0, roads=())
        worlds = tuple(sorted(all_worlds(program, 600)))
        self.assertEqual(knots_of(program, worlds), (worlds,))

    def test_random_sets_of_worlds(self):
        rng = random.Random(51)
        rich = 0
        for program, worlds in small_programs(52, 500, 40):
            for share in (1, 0.7):
                some = tuple(sorted(world for world in worlds if rng.random() < share))
                told = knots_of(program, some)
                self.assertEqual(told, knots_by_reach(program, some))
                rich += len(told) > 1 and max(len(knot) for knot in told) > 1
        self.assertGreater(rich, 20)

    def test_a_long_way(self):
        steps = tuple(("pick", k + 1) for k in range(11)) + (("pick", 0),)
        program = ((), (("main", 0, steps),), ("main", "main"))
        worlds = tuple(sorted(all_worlds(program, 600)))
        self.assertEqual(len(worlds), 144)
        self.assertEqual(knots_of(program, worlds), (worlds,))
        counters = tuple(("add", k % 2, 1) for k in range(11)) + (("pick", 0),)
        program = ((), (("main", 2, counters),), ("main", "main"))
        worlds = tuple(sorted(all_worlds(program, 3000)))
        self.assertGreater(len(worlds), 1000)
        self.assertEqual(knots_of(program, worlds), (worlds,))


class IsBare(Knots):

    def test_one_world(self):
        program = with_steps(("pick", 0, 1), ("set", 0, 1), ("stop",))
        first, second, third = sorted(all_worlds(program, 600))
        self.assertIs(is_bare(program, (first,)), False)
        self.assertIs(is_bare(program, (second,)), True)
        self.assertIs(is_bare(program, (third,)), True)

    def test_a_step_that_leads_to_itself(self):
        program = with_steps(("if", 0, 0, 0), ("stop",))
        self.assertIs(is_bare(program, (start_world(program),)), False)

    def test_more_worlds(self):
        program = with_steps(("pick", 1), ("pick", 0), many=0, roads=())
        self.assertIs(is_bare(program, tuple(sorted(all_worlds(program, 600)))), False)


class HelperOf(Knots):

    def test_a_helper(self):
        first, second = sorted(all_worlds(BESIDE, 600))
        self.assertEqual(helper_of(BESIDE, (first,)), 1)
        self.assertIsNone(helper_of(BESIDE, (second,)))

    def test_the_least(self):
        program = (BESIDE[0], BESIDE[1], ("once", "round", "once"))
        self.assertEqual(helper_of(program, (start_world(program),)), 0)
        program = (BESIDE[0], BESIDE[1], ("round", "once", "once"))
        self.assertEqual(helper_of(program, (start_world(program),)), 1)

    def test_a_bare_knot(self):
        program = (BESIDE[0], BESIDE[1], ("once", "once"))
        start = start_world(program)
        self.assertEqual(helper_of(program, (start,)), 0)
        self.assertEqual(helper_of(program, (moved(program, start, ("hand", 0, 0)),)), 1)
        end = moved(program, moved(program, start, ("hand", 0, 0)), ("hand", 1, 0))
        self.assertIsNone(helper_of(program, (end,)))

    def test_one_that_can_move_but_not_in_each_world(self):
        program = (
            (("row", 1, False),),
            (("round", 0, (("send", 0, "a", 0), ("wait", 0, ("a", None, 0)))),
             ("once", 0, (("wait", 0, ("a", None, 1)),))),
            ("round", "once"),
        )
        worlds = tuple(sorted(all_worlds(program, 600)))
        knot = [knot for knot in knots_of(program, worlds) if len(knot) == 2][0]
        self.assertIsNone(helper_of(program, knot))
        self.check_loop(program, knot)

    def test_one_of_whose_moves_stays(self):
        program = ((), (("round", 0, (("pick", 0),)), ("maybe", 0, (("pick", 0, 1),))), ("round", "maybe"))
        start = start_world(program)
        self.assertIsNone(helper_of(program, (start,)))
        self.check_loop(program, (start,))

    def test_one_that_stays_from_some_worlds_alone(self):
        program = (
            (("heap", 2, False),),
            (("sends", 0, (("send", 0, "c", 0), ("send", 0, "a", 0), ("pick", 1))),
             ("takes", 0, (("wait", 0, ("a", None, 0), ("c", None, 1)),))),
            ("sends", "takes"),
        )
        worlds = tuple(sorted(all_worlds(program, 600)))
        knot = [knot for knot in knots_of(program, worlds) if len(knot) == 4][0]
        self.assertEqual([len(choices(program, world, 1)) for world in knot], [2, 1, 2, 1])
        self.assertIsNone(helper_of(program, knot))
        self.check_loop(program, knot)

    def test_loses_are_no_hands_moves(self):
        program = (
            (("row", 1, True), ("row", 1, True)),
            (("round", 0, (("send", 1, "a", 0), ("pick", 0))), ("once", 0, (("pick", 1),))),
            ("round", "once"),
        )
        worlds = tuple(sorted(all_worlds(program, 600)))
        knots = [knot for knot in knots_of(program, worlds) if len(knot) == 4]
        self.assertEqual([helper_of(program, knot) for knot in knots], [1, None])


class FairLoop(Knots):

    def test_one_world(self):
        program = with_steps(("pick", 0), many=0, roads=())
        start = start_world(program)
        self.assertEqual(fair_loop(program, (start,)), (start, (("hand", 0, 0),)))

    def test_two_hands_round(self):
        program = (BESIDE[0], BESIDE[1], ("round", "round"))
        start = start_world(program)
        self.check_loop(program, (start,))
        self.assertEqual(sorted(fair_loop(program, (start,))[1]), [("hand", 0, 0), ("hand", 1, 0)])

    def test_a_hand_that_rests_in_the_loop_by_itself_is_brought_in(self):
        program = ((), (("round", 0, (("pick", 1), ("pick", 0))), ("still", 0, (("pick", 0, 1),))), ("round", "still"))
        worlds = tuple(sorted(all_worlds(program, 600)))
        knots = [knot for knot in knots_of(program, worlds) if not is_bare(program, knot)]
        self.assertEqual(len(knots), 2)
        for knot in knots:
            self.check_loop(program, knot)

    def test_refused(self):
        program = with_steps(("set", 0, 1), ("stop",))
        for world in all_worlds(program, 600):
            self.refused(program, (world,))
        first, second = sorted(all_worlds(BESIDE, 600))
        self.refused(BESIDE, (first,))
        self.check_loop(BESIDE, (second,))

    def test_with_loses(self):
        self.check_loop(LEAKY, tuple(sorted(all_worlds(LEAKY, 600))))
        for knot in knots_of(TALK, tuple(sorted(all_worlds(TALK, 600)))):
            if not is_bare(TALK, knot) and helper_of(TALK, knot) is None:
                self.check_loop(TALK, knot)

    def test_a_great_knot(self):
        steps = tuple(("pick", k + 1) for k in range(11)) + (("pick", 0),)
        program = ((), (("main", 0, steps), ("other", 1, (("add", 0, 1), ("pick", 0)))), ("main", "main", "other"))
        worlds = tuple(sorted(all_worlds(program, 900)))
        self.assertEqual(len(worlds), 864)
        self.check_loop(program, worlds)

    def test_either_a_helper_or_a_fair_loop(self):
        seen = {"helper": 0, "loop": 0, "great": 0}
        for program, worlds in small_programs(53, 250, 60):
            for knot in knots_of(program, tuple(sorted(worlds))):
                helpers = [k for k in range(len(knot[0][0])) if is_helper(program, knot, k)]
                self.assertEqual(helper_of(program, knot), helpers[0] if helpers else None)
                bare = len(knot) == 1 and all(behind != knot[0] for move, behind in ahead(program, knot[0]))
                self.assertIs(is_bare(program, knot), bare)
                if bare or helpers:
                    self.refused(program, knot)
                    seen["helper"] += not bare
                else:
                    self.check_loop(program, knot)
                    seen["loop"] += 1
                    seen["great"] += len(knot) > 1
        self.assertGreater(min(seen.values()), 20)


class PlainAnswers(unittest.TestCase):

    def test_plain_data_told_again_the_same_and_nothing_changed(self):
        worlds = tuple(sorted(all_worlds(LEAKY, 600)))
        before = copy.deepcopy((LEAKY, worlds))
        for asked in (
            lambda: knots_of(LEAKY, worlds),
            lambda: is_bare(LEAKY, worlds),
            lambda: helper_of(LEAKY, worlds),
            lambda: fair_loop(LEAKY, worlds),
        ):
            told = asked()
            self.assertTrue(tuples_all_down(told))
            self.assertEqual(told, asked())
            self.assertEqual((LEAKY, worlds), before)


if __name__ == "__main__":
    unittest.main()
