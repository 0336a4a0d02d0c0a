"""[0.2], [1.1], [1.2]: what a program is, and what can be read off one."""

import copy
import unittest

from lettermoat.errors import LetterError
from lettermoat.programs import is_program, is_wide, role_of, sent_on

from tests.samples import WAY, WIDE, Awkward, asker, nest, tuples_all_down, with_steps

STOP = ("stop",)
TWELVE = (
    ("set", 0, 0), ("set", 1, 2), ("add", 0, 0), ("add", 1, 2), ("if", 1, 2, 12), ("pick", 12), ("pick", 0, 5, 12),
    ("send", 0, "a", 0), ("tell", 0, "abcdefgh", 1), ("wait", 0, ("a", None, 0), ("ab", 0, 12), ("b", 1, 3)),
    ("begin", "main"), STOP,
)


def roles_named(*names):
    return tuple((name, 0, (STOP,)) for name in names)


def with_roads(*roads):
    return (roads, roles_named("main"), ("main",))


def with_roles(*roles, hands=("main",)):
    return ((), roles, hands)


class Told(unittest.TestCase):

    def told(self, wanted, programs):
        for number, value in enumerate(programs):
            with self.subTest(number):
                self.assertIs(is_program(value), wanted)
                self.assertIs(is_program(value), wanted)


class IsProgramTrue(Told):

    def test_ordinary(self):
        self.told(True, [asker(), with_steps(STOP), with_steps(STOP, roads=(), many=0)])

    def test_roads(self):
        self.told(True, [with_roads(), with_roads(WAY, WAY, WIDE, WIDE)])
        self.told(True, [with_roads((order, most, loses))
                         for order in ("row", "heap") for most in (1, 2, 3) for loses in (True, False)])
        self.told(True, [with_roads(("row", None, True))])

    def test_roles_and_hands(self):
        self.told(True, [
            with_roles(*roles_named("main")),
            with_roles(*roles_named("main", "a", "abcdefgh", "z")),
            with_roles(*roles_named("main", "a"), hands=("a", "main", "a", "a")),
            with_roles(*roles_named("main", "road", "role", "hand")),
        ])
        self.told(True, [with_steps(STOP, many=many) for many in (0, 1, 2)])

    def test_steps(self):
        self.assertEqual(len(TWELVE), 12)
        self.told(True, [with_steps(*TWELVE), with_steps(*TWELVE[::-1])])
        self.told(True, [
            with_steps(("if", 0, 0, 1)), with_steps(("pick", 0, 1)), with_steps(("pick", 0)),
            with_steps(("wait", 0, ("a", None, 1)), many=0), with_steps(("send", 3, "a", 2), roads=(WAY,) * 4),
            with_steps(("begin", "b"), others=roles_named("b")),
        ])


class IsProgramFalse(Told):

    def test_values_of_other_kinds(self):
        deep = nest(5000)
        self.told(False, [
            None, True, False, 0, 1, -7, 1.5, float("nan"), "", "program", b"row", [], {}, set(), frozenset(),
            object, object(), (), ((),), ((), (), ()), (((),), ((),), ((),)), (None, None, None), (1, 2, 3),
            ("", "", ""), ("a", "b", "c"), ((), ((((),),),), ()), range(3), lambda: None, Ellipsis, 10 ** 400, deep,
            (deep, deep, deep), (iter(()), iter(()), iter(())),
        ])

    def test_awkward_values_in_each_place(self):
        bad = Awkward()
        values = [
            bad, (bad, bad, bad), with_roads(bad), with_roads((bad, bad, bad)), with_roads(("row", bad, True)),
            with_roads(("row", 1, bad)), with_roles(bad), with_roles((bad, bad, bad)),
            with_roles(("main", bad, (STOP,))), with_roles(("main", 0, bad)), with_steps(bad), with_steps((bad,)),
            with_steps(("set", bad, 0)), with_steps(("wait", 0, bad)), with_steps(("wait", 0, (bad, bad, bad))),
            with_steps(("pick", bad, bad)), with_steps(("begin", bad)),
            with_roles(*roles_named("main"), hands=(bad,)), with_roles(*roles_named("main"), hands=bad),
        ]
        for number, value in enumerate(values):
            with self.subTest(number):
                self.assertIs(is_program(value), False)

    def test_lists_in_the_place_of_tuples(self):
        roads, roles, hands = asker()
        self.told(False, [
            [roads, roles, hands], (list(roads), roles, hands), (roads, list(roles), hands),
            (roads, roles, list(hands)), with_roads(list(WAY)), with_roles(["main", 0, (STOP,)]),
            with_roles(("main", 0, [STOP])), with_steps(["stop"]), with_steps(("wait", 0, ["a", None, 0])),
            with_steps(("pick", [0])), with_steps(("begin", ["main"])), with_steps(("send", 0, ["a"], 0)),
            with_roles(*roles_named("main"), hands=(["main"],)),
        ])

    def test_parts_too_many_or_too_few(self):
        roads, roles, hands = asker()
        self.told(False, [
            (roads, roles), (roads, roles, hands, ()), (roads, roles, ()), (roads, (), hands), (roads, (), ()),
            with_roads(("row", 1)), with_roads(("row", 1, True, True)), with_roads(()), with_roles(("main", 0)),
            with_roles(("main", 0, (STOP,), ())), with_roles(()),
        ])

    def test_roads(self):
        self.told(False, [
            with_roads(WAY, WAY, WAY, WAY, WAY), with_roads(("heap", None, True)),
            with_roads(("heap", None, False)), with_roads(("row", None, False)), with_roads(("row", 0, False)),
            with_roads(("row", 4, False)), with_roads(("row", -1, False)), with_roads(("row", True, False)),
            with_roads(("row", False, False)), with_roads(("row", 1.0, False)), with_roads(("row", "1", False)),
            with_roads(("row", 1, 0)), with_roads(("row", 1, 1)), with_roads(("row", 1, None)),
            with_roads(("row", None, 1)), with_roads(("pile", 1, True)), with_roads(("", 1, True)),
            with_roads((None, 1, True)), with_roads((0, 1, True)), with_roads((b"row", 1, True)),
            with_roads(("ROW", 1, True)),
        ])

    def test_roles(self):
        self.told(False, [
            with_roles(*roles_named("main", "a", "b", "c", "d")), with_roles(*roles_named("main", "main")),
            with_roles(*roles_named("main", "a", "main")), with_roles(("main", 0, ())), with_steps(*(STOP,) * 13),
            with_steps(STOP, many=3), with_steps(STOP, many=-1), with_steps(STOP, many=True),
            with_steps(STOP, many=False), with_steps(STOP, many=None), with_steps(STOP, many="1"),
            with_steps(STOP, many=1.0),
        ])

    def test_words(self):
        for word in (
            "", "abcdefghi", "A", "aB", "a1", "a b", "a-b", "a_", " a", "a\n", "\u00e4", "\u00df", "\u0430",
            "a\u0301", None, 1, True, b"a", ("a",),
        ):
            with self.subTest(repr(word)):
                self.assertIs(is_program(((), ((word, 0, (STOP,)),), (word,))), False)
                self.assertIs(is_program(with_roles(("main", 0, (STOP,)), (word, 0, (STOP,)))), False)
                self.assertIs(is_program(with_steps(("send", 0, word, 0))), False)
                self.assertIs(is_program(with_steps(("tell", 0, word, 0))), False)
                self.assertIs(is_program(with_steps(("wait", 0, (word, 0, 0)))), False)
                self.assertIs(is_program(with_steps(("begin", word))), False)

    def test_hands(self):
        two = roles_named("main", "a")
        self.told(False, [with_roles(*two, hands=hands) for hands in (
            (), ("main",) * 5, ("b",), ("main", "b"), ("main", ""), ("main", None), (0,), (True,), (("main",),),
            "main",
        )])

    def test_step_numbers_and_registers(self):
        other = []
        for bad in (-1, 3, True, False, None, "1", 1.0, (1,)):
            other += [("set", 0, bad), ("add", 0, bad), ("if", 0, bad, 0), ("send", 0, "a", bad)]
        for bad in (-1, 2, True, False, None, "1", 1.0, (1,)):
            other += [("set", bad, 0), ("add", bad, 0), ("if", bad, 0, 0), ("tell", 0, "a", bad)]
        for bad in (-1, 2, True, False, "1", ".", 1.0, (1,)):
            other += [("wait", 0, ("a", bad, 0))]
        for bad in (-1, 2, True, False, None, "1", 1.0, (1,)):
            other += [("if", 0, 0, bad), ("pick", bad), ("wait", 0, ("a", 0, bad))]
        for bad in (-1, 1, True, False, None, "0", 1.0, (0,)):
            other += [("send", bad, "a", 0), ("tell", bad, "a", 0), ("wait", bad, ("a", 0, 0))]
        self.told(False, [with_steps(step) for step in other])

    def test_registers_roads_and_roles_that_are_not_there(self):
        self.told(False, [with_steps(step, many=0) for step in (
            ("set", 0, 0), ("add", 0, 0), ("if", 0, 0, 0), ("tell", 0, "a", 0), ("wait", 0, ("a", 0, 0)))])
        self.told(False, [with_steps(("set", 1, 0), many=1)])
        self.told(False, [with_steps(step, roads=()) for step in (
            ("send", 0, "a", 0), ("tell", 0, "a", 0), ("wait", 0, ("a", 0, 0)))])
        self.told(False, [with_steps(("begin", "other"))])

    def test_registers_are_those_of_the_role_itself(self):
        self.told(False, [with_steps(STOP, many=2, others=(("b", 1, (("set", 1, 0),)),))])
        self.told(False, [with_steps(STOP, STOP, others=(("b", 1, (("pick", 2),)),))])

    def test_what_does_not_rise(self):
        self.told(False, [with_steps(step, STOP, STOP) for step in (
            ("pick", 1, 0), ("pick", 1, 1), ("pick", 0, 2, 1), ("pick", 0, 1, 1),
            ("wait", 0, ("b", 0, 0), ("a", 0, 0)), ("wait", 0, ("a", 0, 0), ("a", 1, 1)),
            ("wait", 0, ("a", 0, 0), ("c", 0, 0), ("b", 0, 0)), ("wait", 0, ("ab", 0, 0), ("a", 0, 0)))])

    def test_forms_of_steps(self):
        arms = (("a", 0, 0), ("b", 0, 0), ("c", 0, 0), ("d", 0, 0))
        self.told(False, [with_steps(step, STOP, STOP, STOP) for step in (
            (), "stop", None, 0, ("halt",), ("",), (None,), (0,), (True,), (("stop",),), ("STOP",), ("stop", 0),
            ("stop", None), ("set",), ("set", 0), ("set", 0, 0, 0), ("add", 0), ("add", 0, 0, 0), ("if", 0, 0),
            ("if", 0, 0, 0, 0), ("pick",), ("pick", 0, 1, 2, 3), ("pick", (0, 1)), ("send", 0, "a"),
            ("send", 0, "a", 0, 0), ("tell", 0, "a"), ("tell", 0, "a", 0, 0), ("wait",), ("wait", 0),
            ("wait", 0) + arms, ("wait", 0, arms), ("wait", 0, ("a", 0)), ("wait", 0, ("a", 0, 0, 0)),
            ("wait", 0, ()), ("wait", 0, "abc"), ("begin",), ("begin", "main", "main"), ("begin", 0),
        )])

    def test_one_bad_part_among_good_ones(self):
        self.told(False, [
            with_roads(WAY, ("row", 4, False)), with_steps(*TWELVE[:11], ("set", 0, 3)),
            with_steps(STOP, others=(("b", 0, (STOP, ("set", 0, 0))),)),
            with_steps(("wait", 0, ("a", 0, 0), ("b", 0, 9))), with_steps(("pick", 0, 9)),
        ])


class ReadOff(unittest.TestCase):

    def test_role_of(self):
        program = asker()
        self.assertEqual(role_of(program, "asker"), program[1][0])
        self.assertEqual(role_of(program, "helper"), program[1][1])

    def test_role_of_none(self):
        with self.assertRaises(LetterError):
            role_of(asker(), "nobody")

    def test_is_wide(self):
        self.assertIs(is_wide(asker()), True)
        self.assertIs(is_wide(with_roads(WAY, WIDE)), True)
        self.assertIs(is_wide(with_roads()), False)
        self.assertIs(is_wide(with_roads(WAY, ("row", 3, True), ("heap", 1, True))), False)

    def test_sent_on(self):
        program = asker()
        self.assertEqual(sent_on(program, 0), (("ask", 1),))
        self.assertEqual(sent_on(program, 1), (("yes", 2),))
        self.assertEqual(sent_on(program, 2), (("note", 0), ("note", 1), ("note", 2)))

    def test_sent_on_rises_and_tells_each_once(self):
        roles = (
            ("main", 1, (("send", 0, "b", 2), ("send", 0, "b", 0), ("tell", 0, "ab", 0), ("send", 0, "ab", 1))),
            ("idle", 0, (("send", 0, "b", 2), ("send", 0, "a", 1), ("send", 1, "c", 0))),
        )
        program = ((WAY, WAY, WAY), roles, ("main",))
        self.assertEqual(sent_on(program, 0), (("a", 1), ("ab", 0), ("ab", 1), ("ab", 2), ("b", 0), ("b", 2)))
        self.assertEqual(sent_on(program, 1), (("c", 0),))
        self.assertEqual(sent_on(program, 2), ())

    def test_the_same_again_and_nothing_changed(self):
        program = asker()
        before = copy.deepcopy(program)
        for road in (0, 1, 2):
            told = sent_on(program, road)
            self.assertTrue(tuples_all_down(told))
            self.assertEqual(sent_on(program, road), told)
        self.assertTrue(tuples_all_down(role_of(program, "asker")))
        self.assertEqual(program, before)

    def test_beyond_the_bounds_nothing_is_refused(self):
        roles = tuple((name, 5, (("send", 6, "a", 7),) * 20) for name in ("a", "b", "c", "d", "e", "abcdefghij"))
        program = ((("row", 9, False),) * 7, roles, ("a",) * 9)
        self.assertIs(is_program(program), False)
        self.assertIs(is_wide(program), False)
        self.assertEqual(role_of(program, "abcdefghij"), roles[5])
        self.assertEqual(sent_on(program, 6), (("a", 7),))


if __name__ == "__main__":
    unittest.main()
