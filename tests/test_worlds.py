"""[4.1], [4.2], [4.3]: worlds, the choices of hands, moves, and which of them are apart."""

import copy
import random
import unittest

from lettermoat.errors import NoMove
from lettermoat.worlds import apart, choices, is_world, moved, moves, start_world, step_at, stopped

from tests.samples import TALK, WIDE, asker, odd_values, random_program, spoilings, tuples_all_down, with_steps

A = ("a", 0)
B = ("b", 0)
C = ("b", 1)
ROW = ("row", 2, False)
HEAP = ("heap", 2, False)
LOSING = ("row", 3, True)
STOP = ("stop",)


def standing(step=0, numbers=(0, 0), name="main"):
    return (name, step, numbers)


def lone(step=0, numbers=(0, 0), loads=((),)):
    """A world of one hand of the role main."""
    return ((standing(step, numbers),), loads)


def random_worlds(rng, program, count):
    world = start_world(program)
    for k in range(count):
        yield world
        found = moves(program, world)
        if not found:
            return
        world = moved(program, world, rng.choice(found))


class Start(unittest.TestCase):

    def test_start(self):
        self.assertEqual(start_world(asker()), (
            (("asker", 0, (0, 0)), ("helper", 0, ()), ("asker", 0, (0, 0))),
            ((), (), ()),
        ))
        self.assertEqual(start_world(TALK), ((("asker", 0, (0,)), ("helper", 0, (0,))), ((), ())))

    def test_no_roads(self):
        self.assertEqual(start_world(with_steps(STOP, roads=(), many=0)), ((("main", 0, ()),), ()))

    def test_it_is_a_world(self):
        for program in (asker(), TALK, with_steps(STOP, roads=())):
            self.assertIs(is_world(program, start_world(program)), True)


class IsWorld(unittest.TestCase):

    def setUp(self):
        self.roads = (("row", 2, False), ("heap", 3, True), WIDE)
        self.program = with_steps(("set", 0, 1), STOP, roads=self.roads, others=(("other", 0, (STOP,)),))

    def told(self, wanted, *values):
        for number, value in enumerate(values):
            with self.subTest(number):
                self.assertIs(is_world(self.program, value), wanted)

    def with_loads(self, *loads):
        return ((standing(),), loads)

    def with_hands(self, *hands):
        return (hands, ((), (), ()))

    def test_steps_and_numbers(self):
        self.told(True, *[self.with_hands(standing(step)) for step in (0, 1, 2)])
        self.told(False, *[self.with_hands(standing(step)) for step in (-1, 3, 4, True, None, "0")])
        self.told(True, *[self.with_hands(standing(0, (v, 2 - v))) for v in (0, 1, 2)])
        self.told(False, *[self.with_hands(standing(0, (0, v))) for v in (-1, 3, True, None, "0")])
        self.told(False, *[self.with_hands(standing(0, numbers)) for numbers in ((), (0,), (0, 0, 0), [0, 0], 0)])

    def test_roles(self):
        self.told(True, self.with_hands(("other", 0, ())), self.with_hands(("other", 1, ())))
        self.told(False, self.with_hands(("other", 2, ())), self.with_hands(("other", 0, (0,))))
        self.told(False, *[self.with_hands((name, 0, (0, 0))) for name in ("mai", "mains", "Main", "", 0, None)])

    def test_how_many_hands(self):
        self.told(True, *[self.with_hands(*[standing()] * count) for count in (1, 2, 6)])
        self.told(True, self.with_hands(standing(2), ("other", 0, ()), standing(1)))
        self.told(False, *[self.with_hands(*[standing()] * count) for count in (0, 7, 8)])

    def test_how_many_loads(self):
        self.told(False, ((standing(),), ()), self.with_loads((), ()), self.with_loads((), (), (), ()))
        empty = with_steps(STOP, roads=())
        self.assertIs(is_world(empty, ((standing(),), ())), True)
        self.assertIs(is_world(empty, ((standing(),), ((),))), False)

    def test_how_many_letters(self):
        self.told(True, self.with_loads((A, A), (A, A, A), (A,) * 50))
        self.told(False, self.with_loads((A, A, A), (), ()), self.with_loads((), (A, A, A, A), ()))

    def test_heaps_rise_and_rows_need_not(self):
        self.told(True, self.with_loads((C, A), (A, B, C), (C, B, A)), self.with_loads((), (B, B, C), ()))
        self.told(False, self.with_loads((), (B, A), ()), self.with_loads((), (A, C, B), ()))

    def test_letters(self):
        self.told(True, *[self.with_loads((), (), (letter,)) for letter in (("abcdefgh", 2), ("z", 0), ("z", 1))])
        bad = (("a", 3), ("a", -1), ("a", True), ("A", 0), ("", 0), ("abcdefghi", 0), ("a",), ("a", 0, 0), "a0", None,
               ["a", 0], (0, "a"), ("a", None))
        self.told(False, *[self.with_loads((letter,), (), ()) for letter in bad])
        self.told(False, *[self.with_loads((), (letter,), ()) for letter in bad])
        self.told(False, *[self.with_loads((), (), (A, letter)) for letter in bad])

    def test_lists_in_the_place_of_tuples(self):
        good = self.with_loads((A,), (A, B), (C, A))
        self.told(True, good)
        self.told(False, list(good), (list(good[0]), good[1]), (good[0], list(good[1])), good[:1], good + ((),), ())
        self.told(False, self.with_loads([A], (), ()), self.with_hands(["main", 0, (0, 0)]))

    def test_how_many_parts_a_hand_has(self):
        self.told(False, *[self.with_hands(standing()[:count]) for count in range(3)])
        self.told(False, self.with_hands(standing() + (0,)), self.with_hands(standing() + ((),)))

    def test_values_of_any_kind_in_each_place(self):
        good = (
            (standing(1, (2, 1)), ("other", 0, ())),
            ((A, C), (A, B, C), (B,)),
        )
        self.told(True, good)
        for number, odd in enumerate(odd_values()):
            for spoilt in spoilings(good, odd):
                with self.subTest(number):
                    self.assertIs(is_world(self.program, spoilt), False)

    def test_moves_lead_to_worlds(self):
        rng = random.Random(4)
        for seed in range(150):
            program = random_program(rng, wide=seed % 3 == 0)
            for world in random_worlds(rng, program, 30):
                self.assertIs(is_world(program, world), True)


class StepsAndStops(unittest.TestCase):

    def test_step_at(self):
        program = with_steps(("set", 0, 1), STOP, others=(("other", 0, (("pick", 0),)),))
        self.assertEqual(step_at(program, standing(0)), ("set", 0, 1))
        self.assertEqual(step_at(program, standing(1)), STOP)
        self.assertIsNone(step_at(program, standing(2)))
        self.assertEqual(step_at(program, ("other", 0, ())), ("pick", 0))
        self.assertIsNone(step_at(program, ("other", 1, ())))

    def test_stopped(self):
        program = with_steps(("wait", 0, ("a", None, 0)), STOP, ("pick", 0))
        self.assertEqual([stopped(program, standing(step)) for step in range(4)], [False, True, False, True])


class Choices(unittest.TestCase):

    def of(self, step, loads=((),), roads=(ROW,), hands=1):
        program = with_steps(step, roads=roads)
        return choices(program, ((standing(),) * hands, loads), 0)

    def test_plain_steps(self):
        for step in (("set", 0, 1), ("add", 1, 2), ("if", 0, 0, 1), ("if", 0, 1, 0)):
            self.assertEqual(self.of(step), (0,))

    def test_pick(self):
        self.assertEqual(self.of(("pick", 1)), (0,))
        self.assertEqual(self.of(("pick", 0, 1)), (0, 1))
        self.assertEqual(choices(with_steps(("pick", 0, 1, 2), STOP), lone(), 0), (0, 1, 2))

    def test_sends_where_there_is_room(self):
        for step in (("send", 0, "a", 1), ("tell", 0, "a", 1)):
            self.assertEqual(self.of(step, ((A,),)), (0,))
            self.assertEqual(self.of(step, ((A, A),)), ())
            self.assertEqual(self.of(step, ((A, B),), (HEAP,)), ())
            self.assertEqual(self.of(step, ((A,) * 40,), (WIDE,)), (0,))
            self.assertEqual(self.of(step, ((A,), (B, B)), (ROW, HEAP)), (0,))
            self.assertEqual(self.of(step, ((A, A), ()), (ROW, HEAP)), ())

    def test_begin_while_there_are_fewer_than_six(self):
        for hands in range(1, 6):
            self.assertEqual(self.of(("begin", "main"), hands=hands), (0,))
        self.assertEqual(self.of(("begin", "main"), hands=6), ())
        self.assertEqual(self.of(("begin", "main"), hands=7), ())

    def test_other_steps_with_six_hands(self):
        for step in (("set", 0, 1), ("pick", 0), ("send", 0, "a", 0)):
            self.assertEqual(self.of(step, hands=6), (0,))

    def test_stopped_hands_count_as_hands(self):
        program = with_steps(("begin", "main"), STOP)
        self.assertEqual(choices(program, ((standing(0),) + (standing(1),) * 4, ((),)), 0), (0,))
        self.assertEqual(choices(program, ((standing(0),) + (standing(1),) * 5, ((),)), 0), ())

    def test_stopped(self):
        program = with_steps(STOP)
        self.assertEqual(choices(program, lone(0), 0), ())
        self.assertEqual(choices(program, lone(1), 0), ())

    def test_wait_on_a_row_takes_the_first_alone(self):
        step = ("wait", 0, ("a", 0, 0), ("b", None, 1))
        self.assertEqual(self.of(step), ())
        self.assertEqual(self.of(step, ((A, B),)), (0,))
        self.assertEqual(self.of(step, ((("a", 2), B),)), (2,))
        self.assertEqual(self.of(step, ((C, A),)), (4,))
        self.assertEqual(self.of(step, ((("b", 2), A),)), (5,))
        self.assertEqual(self.of(step, ((("c", 0), A),)), ())
        self.assertEqual(self.of(step, ((C, A),), (WIDE,)), (4,))

    def test_wait_on_a_heap_takes_any(self):
        step = ("wait", 0, ("a", 0, 0), ("b", None, 1))
        heap = (("heap", 3, False),)
        self.assertEqual(self.of(step, ((A, B, C),), heap), (0, 3, 4))
        self.assertEqual(self.of(step, ((A, A, C),), heap), (0, 4))
        self.assertEqual(self.of(step, ((("a", 1), ("a", 2), ("c", 0)),), heap), (1, 2))
        self.assertEqual(self.of(step, ((("c", 0), ("c", 1)),), heap), ())
        self.assertEqual(self.of(("wait", 0, ("b", 0, 0)), ((A, B, C),), heap), (0, 1))

    def test_third_arm(self):
        step = ("wait", 0, ("a", None, 0), ("b", None, 0), ("c", None, 0))
        self.assertEqual(self.of(step, ((("c", 2), A),)), (8,))

    def test_the_road_named_is_looked_at(self):
        step = ("wait", 1, ("a", 0, 0))
        self.assertEqual(self.of(step, ((A,), ()), (ROW, HEAP)), ())
        self.assertEqual(self.of(step, ((), (A,)), (ROW, HEAP)), (0,))

    def test_no_such_hand(self):
        program = with_steps(("set", 0, 1))
        world = ((standing(), standing(1)), ((),))
        self.assertEqual([choices(program, world, k) for k in (0, 1)], [(0,), ()])
        for k in (-3, -2, -1, 2, 3, 10 ** 9):
            with self.assertRaises(NoMove):
                choices(program, world, k)


class Moves(unittest.TestCase):

    def test_hand_by_hand_then_loses(self):
        program = with_steps(
            ("pick", 0, 1), ("wait", 1, ("a", 0, 0), ("b", 0, 0)), STOP,
            roads=(LOSING, ("heap", 3, True), ROW),
        )
        world = ((standing(1), standing(2), standing(0)), ((B, B, A), (A, B, C), (A, B)))
        self.assertEqual(moves(program, world), (
            ("hand", 0, 0), ("hand", 0, 3), ("hand", 0, 4), ("hand", 2, 0), ("hand", 2, 1),
            ("lose", 0, 0), ("lose", 0, 2), ("lose", 1, 0), ("lose", 1, 1), ("lose", 1, 2),
        ))

    def test_of_like_letters_side_by_side_the_first_alone(self):
        program = with_steps(STOP, roads=(LOSING, ("heap", 3, True), WIDE))
        world = ((standing(),), ((A, B, A), (A, A, A), (A, A, B, B, A)))
        self.assertEqual(moves(program, world), (
            ("lose", 0, 0), ("lose", 0, 1), ("lose", 0, 2), ("lose", 1, 0),
            ("lose", 2, 0), ("lose", 2, 2), ("lose", 2, 4),
        ))

    def test_none(self):
        self.assertEqual(moves(with_steps(STOP), lone()), ())
        self.assertEqual(moves(with_steps(("wait", 0, ("a", 0, 0))), lone()), ())
        self.assertEqual(moves(with_steps(("wait", 0, ("a", 0, 0))), lone(loads=((B, A),))), ())


class Moved(unittest.TestCase):

    def leads(self, step, choice, wanted, loads=((),), numbers=(0, 0), roads=(ROW,)):
        program = with_steps(step, STOP, STOP, STOP, roads=roads)
        before = lone(0, numbers, loads)
        self.assertEqual(moved(program, before, ("hand", 0, choice)), wanted)
        self.assertEqual(before, lone(0, numbers, loads))

    def test_set(self):
        self.leads(("set", 0, 2), 0, lone(1, (2, 1)), numbers=(1, 1))
        self.leads(("set", 1, 0), 0, lone(1, (1, 0)), numbers=(1, 1))

    def test_add_goes_round(self):
        for held in range(3):
            for n in range(3):
                self.leads(("add", 1, n), 0, lone(1, (2, (held + n) % 3)), numbers=(2, held))
                self.leads(("add", 0, n), 0, lone(1, ((held + n) % 3, 2)), numbers=(held, 2))

    def test_if(self):
        self.leads(("if", 1, 2, 3), 0, lone(3, (0, 2)), numbers=(0, 2))
        self.leads(("if", 1, 2, 3), 0, lone(1, (2, 0)), numbers=(2, 0))
        self.leads(("if", 0, 0, 0), 0, lone(0))
        self.leads(("if", 0, 0, 4), 0, lone(4))

    def test_pick(self):
        for choice, step in enumerate((0, 2, 4)):
            self.leads(("pick", 0, 2, 4), choice, lone(step))

    def test_send(self):
        self.leads(("send", 0, "b", 1), 0, lone(1, loads=((C,),)))
        self.leads(("send", 0, "a", 0), 0, lone(1, loads=((C, A),)), ((C,),))
        self.leads(("send", 0, "a", 0), 0, lone(1, loads=((A, C),)), ((C,),), roads=(HEAP,))
        self.leads(("send", 1, "a", 0), 0, lone(1, loads=((B,), (C, A))), ((B,), (C,)), roads=(ROW, WIDE))

    def test_tell(self):
        for held in range(3):
            self.leads(("tell", 0, "b", 1), 0, lone(1, (1, held), ((("b", held),),)), numbers=(1, held))

    def test_wait(self):
        step = ("wait", 0, ("a", None, 3), ("b", 1, 2))
        self.leads(step, 0, lone(3, (1, 2), ((B,),)), ((A, B),), (1, 2))
        self.leads(step, 2, lone(3, (1, 2)), ((("a", 2),),), (1, 2))
        self.leads(step, 4, lone(2, (1, 1), ((A,),)), ((C, A),), (1, 2))
        self.leads(("wait", 0, ("a", 0, 4)), 1, lone(4, (1, 2)), ((("a", 1),),), (0, 2))

    def test_wait_on_a_heap(self):
        step = ("wait", 0, ("a", 0, 3), ("b", 1, 0))
        heap = (("heap", 3, True),)
        self.leads(step, 0, lone(3, (0, 2), ((B, C),)), ((A, B, C),), (2, 2), heap)
        self.leads(step, 3, lone(0, (2, 0), ((A, C),)), ((A, B, C),), (2, 2), heap)
        self.leads(step, 4, lone(0, (2, 1), ((A, B),)), ((A, B, C),), (2, 2), heap)
        self.leads(step, 3, lone(0, (2, 0), ((A, B),)), ((A, B, B),), (2, 2), heap)

    def test_begin(self):
        program = with_steps(("begin", "other"), STOP, others=(("other", 1, (STOP,)),))
        world = ((standing(0, (1, 2)), ("other", 1, (2,))), ((),))
        self.assertEqual(moved(program, world, ("hand", 0, 0)),
                         ((standing(1, (1, 2)), ("other", 1, (2,)), ("other", 0, (0,))), ((),)))

    def test_the_other_hands_stay(self):
        program = with_steps(("set", 0, 1), STOP)
        world = ((standing(0), standing(1, (2, 2)), standing(0, (0, 1))), ((A,),))
        self.assertEqual(moved(program, world, ("hand", 2, 0)),
                         ((standing(0), standing(1, (2, 2)), standing(1, (1, 1))), ((A,),)))

    def test_lose(self):
        program = with_steps(STOP, roads=(ROW, LOSING, ("heap", 3, True), WIDE))
        loads = ((A,), (B, A, B), (A, A, C), (A, C))
        for move, wanted in (
            (("lose", 1, 0), ((A,), (A, B), (A, A, C), (A, C))),
            (("lose", 1, 1), ((A,), (B, B), (A, A, C), (A, C))),
            (("lose", 1, 2), ((A,), (B, A), (A, A, C), (A, C))),
            (("lose", 2, 0), ((A,), (B, A, B), (A, C), (A, C))),
            (("lose", 2, 2), ((A,), (B, A, B), (A, A), (A, C))),
            (("lose", 3, 1), ((A,), (B, A, B), (A, A, C), (A,))),
        ):
            self.assertEqual(moved(program, lone(loads=loads), move), lone(loads=wanted))

    def test_what_cannot_be_done(self):
        roads = (ROW, LOSING, ("heap", 3, True))
        program = with_steps(("pick", 0, 1), ("wait", 0, ("a", 0, 0)), STOP, roads=roads)
        world = ((standing(0), standing(1), standing(2), standing(3)), ((B, A), (A, A, B), ()))
        for move in (
            ("hand", 0, 2), ("hand", 0, -1), ("hand", 1, 0), ("hand", 2, 0), ("hand", 3, 0), ("hand", 4, 0),
            ("hand", -1, 0), ("hand", -4, 0), ("lose", 0, 0), ("lose", 1, 1), ("lose", 1, 3), ("lose", 1, -1),
            ("lose", 1, -3), ("lose", 2, 0), ("lose", 3, 0), ("lose", -2, 0), ("lose", -1, 0), ("lose", 10 ** 9, 0),
        ):
            with self.subTest(move), self.assertRaises(NoMove):
                moved(program, world, move)

    def test_full_roads_and_full_worlds(self):
        with self.assertRaises(NoMove):
            moved(with_steps(("send", 0, "a", 0)), lone(loads=((A, A),)), ("hand", 0, 0))
        with self.assertRaises(NoMove):
            moved(with_steps(("begin", "main")), ((standing(),) * 6, ((),)), ("hand", 0, 0))

    def test_just_the_moves_told_can_be_done(self):
        rng = random.Random(7)
        for seed in range(60):
            program = random_program(rng, wide=seed % 3 == 0)
            for world in random_worlds(rng, program, 12):
                found = moves(program, world)
                self.assertEqual(len(set(found)), len(found))
                self.assertEqual(found, tuple(sorted(found)))
                for word in ("hand", "lose"):
                    for first in range(-1, 5):
                        for second in range(-1, 10):
                            if (word, first, second) in found:
                                moved(program, world, (word, first, second))
                            else:
                                with self.assertRaises(NoMove):
                                    moved(program, world, (word, first, second))


class Apart(unittest.TestCase):

    def told(self, wanted, program, world, one, other):
        self.assertIs(apart(program, world, one, other), wanted)
        self.assertIs(apart(program, world, other, one), wanted)

    def test_own_steps_of_two_hands(self):
        program = with_steps(("set", 0, 1), ("pick", 0, 1), STOP)
        world = ((standing(0), standing(1)), ((),))
        self.told(True, program, world, ("hand", 0, 0), ("hand", 1, 0))
        self.told(True, program, world, ("hand", 0, 0), ("hand", 1, 1))

    def test_one_hand(self):
        program = with_steps(("pick", 0, 1), STOP)
        self.told(False, program, lone(), ("hand", 0, 0), ("hand", 0, 1))
        self.told(False, program, lone(), ("hand", 0, 0), ("hand", 0, 0))

    def test_sends(self):
        program = with_steps(("send", 0, "a", 0), ("send", 0, "b", 0), ("send", 0, "a", 0), STOP)
        first = ("hand", 0, 0)
        second = ("hand", 1, 0)
        self.told(False, program, ((standing(0), standing(1)), ((),)), first, second)
        self.told(True, program, ((standing(0), standing(2)), ((),)), first, second)
        self.told(False, program, ((standing(0), standing(2)), ((A,),)), first, second)
        heap = (((HEAP,),) + program[1:])
        self.told(True, heap, ((standing(0), standing(1)), ((),)), first, second)
        self.told(False, heap, ((standing(0), standing(1)), ((A,),)), first, second)

    def test_takes(self):
        program = with_steps(("wait", 0, ("a", 0, 1)), STOP, roads=(("heap", 3, True),))
        pair = (standing(0), standing(0))
        self.told(False, program, (pair, ((A, B),)), ("hand", 0, 0), ("hand", 1, 0))
        self.told(True, program, (pair, ((A, A),)), ("hand", 0, 0), ("hand", 1, 0))
        self.told(True, program, (pair, ((A, ("a", 1)),)), ("hand", 0, 0), ("hand", 1, 1))

    def test_a_send_and_a_take(self):
        program = with_steps(("send", 0, "a", 0), ("wait", 0, ("b", 0, 2)), STOP, roads=(LOSING,))
        pair = (standing(0), standing(1))
        self.told(True, program, (pair, ((B,),)), ("hand", 0, 0), ("hand", 1, 0))
        self.told(False, program, (pair, ((B, B),)), ("hand", 0, 0), ("hand", 0, 0))
        self.told(True, program, (pair, ((B, B),)), ("hand", 0, 0), ("hand", 1, 0))
        self.told(True, program, (pair, ((B, B),)), ("hand", 0, 0), ("lose", 0, 0))

    def test_a_hand_and_a_lose(self):
        program = with_steps(("wait", 0, ("a", 0, 1)), STOP, roads=(LOSING,))
        self.told(False, program, lone(loads=((A,),)), ("hand", 0, 0), ("lose", 0, 0))
        self.told(True, program, lone(loads=((A, A),)), ("hand", 0, 0), ("lose", 0, 0))
        self.told(False, program, lone(loads=((A, B),)), ("hand", 0, 0), ("lose", 0, 1))
        self.told(False, program, lone(loads=((A, B, A),)), ("hand", 0, 0), ("lose", 0, 1))
        other = with_steps(("set", 0, 1), roads=(LOSING,))
        self.told(True, other, lone(loads=((A, B),)), ("hand", 0, 0), ("lose", 0, 1))

    def test_two_loses_are_not(self):
        program = with_steps(STOP, roads=(LOSING, LOSING))
        world = lone(loads=((A, B), (A,)))
        self.told(False, program, world, ("lose", 0, 0), ("lose", 1, 0))
        self.told(False, program, world, ("lose", 0, 0), ("lose", 0, 1))
        self.told(False, program, world, ("lose", 0, 0), ("lose", 0, 0))

    def test_begins(self):
        program = with_steps(("begin", "main"), ("begin", "other"), ("set", 0, 1), others=(("other", 0, (STOP,)),))
        self.told(True, program, ((standing(0), standing(0)), ((),)), ("hand", 0, 0), ("hand", 1, 0))
        self.told(False, program, ((standing(0), standing(1)), ((),)), ("hand", 0, 0), ("hand", 1, 0))
        self.told(True, program, ((standing(0), standing(2)), ((),)), ("hand", 0, 0), ("hand", 1, 0))
        full = ((standing(0),) * 5, ((),))
        self.told(False, program, full, ("hand", 0, 0), ("hand", 1, 0))

    def test_refused(self):
        program = with_steps(("set", 0, 1), STOP)
        world = ((standing(0), standing(1)), ((),))
        good = ("hand", 0, 0)
        for bad in (("hand", 1, 0), ("hand", 0, 1), ("hand", 2, 0), ("hand", -1, 0), ("lose", 0, 0), ("lose", 1, 0)):
            for one, other in ((good, bad), (bad, good), (bad, bad)):
                with self.subTest(bad), self.assertRaises(NoMove):
                    apart(program, world, one, other)

    def test_as_its_words_say(self):
        rng = random.Random(11)
        for seed in range(60):
            program = random_program(rng, wide=seed % 3 == 0)
            for world in random_worlds(rng, program, 8):
                found = moves(program, world)
                for one in found:
                    for other in found:
                        unlike = one[:2] != other[:2] and (one[0] == "hand" or other[0] == "hand")
                        behind = moved(program, world, one)
                        beside = moved(program, world, other)
                        wanted = unlike and other in moves(program, behind) and one in moves(program, beside) and \
                            moved(program, behind, other) == moved(program, beside, one)
                        self.assertIs(apart(program, world, one, other), wanted)


class PlainAnswers(unittest.TestCase):

    def test_plain_data_told_again_the_same_and_nothing_changed(self):
        program = TALK
        world = ((("asker", 1, (0,)), ("helper", 2, (1,))), ((), (("no", 2), ("yes", 1))))
        before = copy.deepcopy((program, world))
        one = ("hand", 0, 2)
        other = ("lose", 1, 1)
        for asked in (
            lambda: start_world(program),
            lambda: choices(program, world, 0),
            lambda: moves(program, world),
            lambda: moved(program, world, one),
            lambda: moved(program, world, other),
            lambda: apart(program, world, one, other),
            lambda: step_at(program, world[0][0]),
            lambda: stopped(program, world[0][0]),
            lambda: is_world(program, world),
        ):
            told = asked()
            self.assertTrue(tuples_all_down(told))
            self.assertEqual(told, asked())
            self.assertEqual((program, world), before)


if __name__ == "__main__":
    unittest.main()
