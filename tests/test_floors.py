"""[8.1], [8.3]: floors, words, the moves among floors, and the words from which a move leads to others."""

import copy
import random
import unittest

from lettermoat.errors import TooMany
from lettermoat.floors import before, floor_moves, floor_of, floors, words_of
from lettermoat.graphs import ahead, all_worlds
from lettermoat.roads import all_within
from lettermoat.worlds import is_world, moved, start_world, step_at

from tests.samples import BITS, TALK, WIDE, all_words, random_talk, tuples_all_down, wide_places, with_steps, with_words

A = ("a", 0)
B = ("b", 1)
ROW = ("row", 2, True)


class FloorsAndWords(unittest.TestCase):

    def setUp(self):
        self.program = with_steps(("stop",), roads=(WIDE, ROW, WIDE, ("heap", 2, False)), many=0)
        self.hands = (("main", 0, ()),)

    def test_floor_of(self):
        world = (self.hands, ((A, B), (B,), (B,), (A, B)))
        self.assertEqual(floor_of(self.program, world), (self.hands, ((), (B,), (), (A, B))))
        empty = (self.hands, ((), (), (), ()))
        self.assertEqual(floor_of(self.program, empty), empty)

    def test_words_of(self):
        world = (self.hands, ((A, B), (B,), (B,), (A, B)))
        self.assertEqual(words_of(self.program, world), ((A, B), (B,)))
        self.assertEqual(words_of(self.program, floor_of(self.program, world)), ((), ()))

    def test_without_wide_roads(self):
        for world in all_worlds(TALK, 600):
            self.assertEqual(floor_of(TALK, world), world)
            self.assertEqual(words_of(TALK, world), ())


class FloorMoves(unittest.TestCase):

    def test_a_send(self):
        program = with_steps(("send", 0, "b", 1), ("tell", 0, "a", 1), ("send", 1, "a", 0), roads=(WIDE, ROW))
        self.assertEqual(floor_moves(program, ((("main", 0, (0, 2)),), ((), ()))),
                         ((("hand", 0, 0), B, ((("main", 1, (0, 2)),), ((), ()))),))
        self.assertEqual(floor_moves(program, ((("main", 1, (0, 2)),), ((), ()))),
                         ((("hand", 0, 0), ("a", 2), ((("main", 2, (0, 2)),), ((), ()))),))
        self.assertEqual(floor_moves(program, ((("main", 2, (0, 2)),), ((), ()))),
                         ((("hand", 0, 0), None, ((("main", 3, (0, 2)),), ((), (A,)))),))

    def test_a_wait_takes_what_some_step_may_send(self):
        program = with_steps(
            ("wait", 0, ("a", None, 1), ("b", 0, 2), ("c", 1, 0)), ("send", 0, "b", 1), ("send", 0, "a", 0),
            roads=(WIDE, WIDE), others=(("other", 1, (("tell", 0, "c", 0), ("send", 0, "d", 0), ("send", 1, "b", 2))),),
        )
        floor = start_world(program)
        self.assertEqual(floor_moves(program, floor), (
            (("hand", 0, 0), A, ((("main", 1, (0, 0)),), ((), ()))),
            (("hand", 0, 4), B, ((("main", 2, (1, 0)),), ((), ()))),
            (("hand", 0, 6), ("c", 0), ((("main", 0, (0, 0)),), ((), ()))),
            (("hand", 0, 7), ("c", 1), ((("main", 0, (0, 1)),), ((), ()))),
            (("hand", 0, 8), ("c", 2), ((("main", 0, (0, 2)),), ((), ()))),
        ))

    def test_a_wait_for_what_no_step_sends(self):
        program = with_steps(("wait", 0, ("a", None, 1)), ("send", 0, "b", 1), roads=(WIDE,))
        self.assertEqual(floor_moves(program, start_world(program)), ())

    def test_in_order_of_moves_then_loses_on_other_roads(self):
        program = (
            (("heap", 2, True), WIDE),
            (("main", 0, (("wait", 0, ("a", None, 1), ("b", None, 1)), ("wait", 1, ("a", None, 2)),
                          ("send", 1, "a", 0), ("pick", 0, 1))),),
            ("main",),
        )
        hands = tuple(("main", step, ()) for step in (3, 1, 0, 2))
        load = (A, ("b", 2))
        floor = (hands, (load, ()))

        def standing(k, step, letters=load):
            return (hands[:k] + (("main", step, ()),) + hands[k + 1:], (letters, ()))

        self.assertEqual(floor_moves(program, floor), (
            (("hand", 0, 0), None, standing(0, 0)),
            (("hand", 0, 1), None, standing(0, 1)),
            (("hand", 1, 0), A, standing(1, 2)),
            (("hand", 2, 0), None, standing(2, 1, (("b", 2),))),
            (("hand", 2, 5), None, standing(2, 1, (A,))),
            (("hand", 3, 0), A, standing(3, 3)),
            (("lose", 0, 0), None, (hands, ((("b", 2),), ()))),
            (("lose", 0, 1), None, (hands, ((A,), ()))),
        ))

    def test_without_wide_roads_they_are_the_moves(self):
        for world in all_worlds(TALK, 600):
            self.assertEqual(floor_moves(TALK, world),
                             tuple((move, None, behind) for move, behind in ahead(TALK, world)))

    def test_they_are_what_moves_do_to_floors(self):
        rng = random.Random(31)
        for seed in range(60):
            program = random_talk(rng, 1 + seed % 2)
            for floor in floors(program, 600)[:20]:
                seen = {}
                for words in all_words(program, 1):
                    world = with_words(program, floor, words)
                    for move, behind in ahead(program, world):
                        if move[0] == "hand" or move[1] not in wide_places(program):
                            seen[(move, floor_of(program, behind))] = True
                told = floor_moves(program, floor)
                self.assertEqual(sorted((move, behind) for move, letter, behind in told), sorted(seen))
                self.assertEqual([move for move, letter, behind in told],
                                 sorted(move for move, letter, behind in told))


class Floors(unittest.TestCase):

    def test_rising_and_closed(self):
        rng = random.Random(32)
        for seed in range(40):
            program = random_talk(rng, 1 + seed % 2)
            found = floors(program, 600)
            row = [start_world(program)]
            for floor in row:
                row += [behind for behind in dict.fromkeys(triple[2] for triple in floor_moves(program, floor))
                        if behind not in row]
            self.assertEqual(found, tuple(sorted(row)))
            self.assertTrue(all(is_world(program, floor) and floor_of(program, floor) == floor for floor in found))

    def test_a_letter_that_never_comes_is_taken_all_the_same(self):
        program = (
            (WIDE,),
            (("main", 0, (("wait", 0, ("a", None, 1)),)), ("other", 0, (("send", 0, "a", 0),))),
            ("main",),
        )
        self.assertEqual(floors(program, 300), (((("main", 0, ()),), ((),)), ((("main", 1, ()),), ((),))))

    def test_without_wide_roads_they_are_the_worlds(self):
        self.assertEqual(floors(TALK, 300), tuple(sorted(all_worlds(TALK, 300))))

    def test_too_many(self):
        self.assertEqual(len(floors(BITS, 20)), 20)
        for most in (1, 19):
            with self.assertRaises(TooMany):
                floors(BITS, most)
        with self.assertRaises(TooMany):
            floors(TALK, 14)
        self.assertEqual(len(floors(TALK, 15)), 15)


class Before(unittest.TestCase):

    def setUp(self):
        self.program = (
            (WIDE, ("row", 2, False), WIDE),
            (("main", 1, (("send", 2, "a", 0), ("tell", 0, "b", 0), ("wait", 2, ("a", None, 0), ("b", 0, 0)),
                          ("send", 1, "a", 0), ("wait", 1, ("a", 0, 0)), ("set", 0, 1), ("begin", "main"),
                          ("pick", 0, 1), ("send", 2, "b", 1))),),
            ("main",),
        )

    def told(self, step, choice, words, number=0, load=()):
        return before(self.program, ((("main", step, (number,)),), ((), load, ())), ("hand", 0, choice), words)

    def test_a_send(self):
        self.assertEqual(self.told(0, 0, ((), (B, A))), ((), (B,)))
        self.assertEqual(self.told(0, 0, ((), (A, A))), ((), (A,)))
        self.assertEqual(self.told(0, 0, ((), (A, B))), ((), (A, B)))
        self.assertEqual(self.told(0, 0, ((), (("a", 1),))), ((), (("a", 1),)))
        self.assertEqual(self.told(0, 0, ((A,), ())), ((A,), ()))
        self.assertEqual(self.told(0, 0, ((A,), (A,))), ((A,), ()))

    def test_a_tell(self):
        self.assertEqual(self.told(1, 0, ((B, B), (B,)), number=1), ((B,), (B,)))
        self.assertEqual(self.told(1, 0, ((B, B), (B,)), number=2), ((B, B), (B,)))

    def test_a_take(self):
        self.assertEqual(self.told(2, 0, ((), ())), ((), (A,)))
        self.assertEqual(self.told(2, 0, ((B,), (B, A))), ((B,), (A, B, A)))
        self.assertEqual(self.told(2, 4, ((), (B,))), ((), (B, B)))

    def test_others(self):
        words = ((A, B), (B, A))
        for step in (3, 5, 6, 7):
            self.assertEqual(self.told(step, 0, words), words)
        self.assertEqual(self.told(4, 0, words, load=(A,)), words)
        losing = ((("row", 2, True), WIDE), (("main", 0, (("stop",),)),), ("main",))
        self.assertEqual(before(losing, ((("main", 0, ()),), ((A,), ())), ("lose", 0, 0), ((B,),)), ((B,),))

    def test_just_from_such_words_it_leads_there(self):
        rng = random.Random(33)
        for seed in range(30):
            program = random_talk(rng, 1)
            some = all_words(program, 2)
            for floor in floors(program, 600)[:10]:
                for move, letter, behind in floor_moves(program, floor):
                    step = None if move[0] == "lose" else step_at(program, floor[0][move[1]])
                    takes = letter is not None and step[0] == "wait"
                    able = [words for words in all_words(program, 3) if not takes or words[0][:1] == (letter,)]
                    for wanted in rng.sample(some, min(len(some), 6)):
                        least = before(program, floor, move, wanted)
                        for words in rng.sample(able, min(len(able), 20)) + [least]:
                            end = moved(program, with_words(program, floor, words), move)
                            self.assertEqual(floor_of(program, end), behind)
                            self.assertIs(all_within(least, words), all_within(wanted, words_of(program, end)))


class PlainAnswers(unittest.TestCase):

    def test_plain_data_told_again_the_same_and_nothing_changed(self):
        floor = start_world(BITS)
        words = ((("x", 0),), (("a", 0), ("b", 0)))
        kept = copy.deepcopy((BITS, floor, words))
        for asked in (
            lambda: floor_of(BITS, with_words(BITS, floor, words)),
            lambda: words_of(BITS, with_words(BITS, floor, words)),
            lambda: floors(BITS, 300),
            lambda: floor_moves(BITS, floor),
            lambda: before(BITS, floor, ("hand", 0, 0), words),
            lambda: before(BITS, floor, ("hand", 1, 0), words),
        ):
            told = asked()
            self.assertTrue(tuples_all_down(told))
            self.assertEqual(told, asked())
            self.assertEqual((BITS, floor, words), kept)


if __name__ == "__main__":
    unittest.main()
