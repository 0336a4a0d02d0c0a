"""[7.1], and what [7.2] says of the ways to worlds: all worlds, ways of fewest moves, and what lies ahead."""

import copy
import unittest

from lettermoat.errors import NoWorlds, TooMany
from lettermoat.graphs import ahead, all_worlds, way_to
from lettermoat.runs import end_of
from lettermoat.worlds import is_world, moved, moves, start_world

from tests.samples import TALK, WIDE, small_programs, tuples_all_down, with_steps

PICKS = with_steps(("pick", 1, 2), ("set", 0, 1), ("add", 1, 2), ("pick", 0, 1, 4))


def ways_by_length(program, length):
    """All rows of so many moves from the start, each told by places among moves, with the world at its end."""
    rows = [((), (), start_world(program))]
    for k in range(length):
        longer = []
        for places, run, world in rows:
            for place, move in enumerate(moves(program, world)):
                longer.append((places + (place,), run + (move,), moved(program, world, move)))
        rows = longer
    return rows


class Ahead(unittest.TestCase):

    def test_pairs_in_order(self):
        world = ((("asker", 1, (0,)), ("helper", 1, (1,))), ((), (("no", 2), ("yes", 1))))
        self.assertEqual(ahead(TALK, world), tuple((move, moved(TALK, world, move)) for move in moves(TALK, world)))
        self.assertEqual([move for move, behind in ahead(TALK, world)], [
            ("hand", 0, 2), ("hand", 0, 4), ("hand", 1, 0), ("hand", 1, 1), ("lose", 1, 0), ("lose", 1, 1),
        ])

    def test_none(self):
        program = with_steps(("stop",))
        self.assertEqual(ahead(program, start_world(program)), ())

    def test_wide(self):
        program = with_steps(("send", 0, "a", 0), roads=(WIDE,), many=0)
        world = ((("main", 0, ()),), ((("b", 1),),))
        self.assertEqual(ahead(program, world), (
            (("hand", 0, 0), ((("main", 1, ()),), ((("b", 1), ("a", 0)),))),
            (("lose", 0, 0), ((("main", 0, ()),), ((),))),
        ))


class AllWorlds(unittest.TestCase):

    def test_one(self):
        program = with_steps(("stop",))
        self.assertEqual(all_worlds(program, 1), (start_world(program),))

    def test_found_in_order(self):
        def at(step, first, second):
            return ((("main", step, (first, second)),), ((),))

        self.assertEqual(all_worlds(PICKS, 600)[:8], (
            at(0, 0, 0), at(1, 0, 0), at(2, 0, 0), at(2, 1, 0), at(3, 0, 2), at(3, 1, 2), at(0, 0, 2), at(1, 0, 2),
        ))

    def test_order_as_found_by_hand(self):
        worlds = all_worlds(TALK, 600)
        row = [start_world(TALK)]
        for place in range(len(worlds)):
            for move in moves(TALK, row[place]):
                behind = moved(TALK, row[place], move)
                if behind not in row:
                    row.append(behind)
        self.assertEqual(worlds, tuple(row))
        self.assertEqual(len(worlds), 15)

    def test_closed_and_each_once(self):
        for program, worlds in small_programs(71, 60, 60):
            self.assertEqual(worlds[0], start_world(program))
            self.assertEqual(len(set(worlds)), len(worlds))
            for world in worlds:
                self.assertTrue(is_world(program, world))
                for move, behind in ahead(program, world):
                    self.assertIn(behind, worlds)

    def test_too_many(self):
        self.assertEqual(len(all_worlds(TALK, 15)), 15)
        for most in (1, 2, 14):
            with self.assertRaises(TooMany):
                all_worlds(TALK, most)
        self.assertEqual(len(all_worlds(TALK, 700)), 15)
        for program, worlds in small_programs(72, 30, 60):
            self.assertEqual(all_worlds(program, len(worlds)), worlds)
            if len(worlds) > 1:
                with self.assertRaises(TooMany):
                    all_worlds(program, len(worlds) - 1)

    def test_too_many_by_far(self):
        picks = tuple(("pick", k, k + 1) for k in range(11)) + (("add", 0, 1),)
        program = ((), (("main", 2, picks),), ("main",) * 4)
        with self.assertRaises(TooMany):
            all_worlds(program, 600)

    def test_wide_is_refused_first(self):
        program = with_steps(("send", 0, "a", 0), roads=(WIDE,))
        for most in (1, 600):
            with self.assertRaises(NoWorlds):
                all_worlds(program, most)
            with self.assertRaises(NoWorlds):
                way_to(program, start_world(program), most)

    def test_a_wide_road_that_no_step_names(self):
        with self.assertRaises(NoWorlds):
            all_worlds(with_steps(("stop",), roads=(WIDE,)), 600)

    def test_six_hands_at_most(self):
        program = ((), (("main", 0, (("begin", "main"), ("pick", 0))),), ("main",))
        worlds = all_worlds(program, 600)
        self.assertEqual(max(len(world[0]) for world in worlds), 6)


class WayTo(unittest.TestCase):

    def test_start(self):
        self.assertEqual(way_to(TALK, start_world(TALK), 600), ())

    def test_no_way(self):
        self.assertIsNone(way_to(TALK, ((("asker", 2, (0,)), ("helper", 0, (0,))), ((), ())), 600))

    def test_of_ways_of_fewest_moves_the_least(self):
        program = (
            (("heap", 2, False),),
            (("main", 0, (("send", 0, "a", 0),)),),
            ("main", "main"),
        )
        end = ((("main", 1, ()), ("main", 1, ())), ((("a", 0), ("a", 0)),))
        self.assertEqual(way_to(program, end, 600), (("hand", 0, 0), ("hand", 1, 0)))

    def test_least_by_places_among_moves(self):
        for program, worlds in small_programs(73, 25, 25):
            left = set(worlds)
            for length in range(6):
                best = {}
                for places, run, world in ways_by_length(program, length):
                    if world in left and (world not in best or places < best[world][0]):
                        best[world] = (places, run)
                for world in best:
                    left.discard(world)
                    self.assertEqual(way_to(program, world, 600), best[world][1])

    def test_it_leads_there(self):
        for program, worlds in small_programs(74, 25, 60):
            for world in worlds:
                run = way_to(program, world, 600)
                self.assertEqual(end_of(program, start_world(program), run), world)

    def test_too_many_though_a_way_was_found(self):
        second = all_worlds(TALK, 600)[1]
        for world in (start_world(TALK), second):
            with self.assertRaises(TooMany):
                way_to(TALK, world, 14)
        self.assertEqual(way_to(TALK, second, 15), (("hand", 0, 0),))


class PlainAnswers(unittest.TestCase):

    def test_plain_data_told_again_the_same_and_nothing_changed(self):
        world = all_worlds(TALK, 600)[-1]
        before = copy.deepcopy((TALK, world))
        for asked in (
            lambda: ahead(TALK, world),
            lambda: all_worlds(TALK, 600),
            lambda: way_to(TALK, world, 600),
        ):
            told = asked()
            self.assertTrue(tuples_all_down(told))
            self.assertEqual(told, asked())
            self.assertEqual((TALK, world), before)


if __name__ == "__main__":
    unittest.main()
