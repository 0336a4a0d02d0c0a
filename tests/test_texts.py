"""[2.1]: programs and steps as texts."""

import random
import unittest

from lettermoat.errors import NoText
from lettermoat.programs import is_program
from lettermoat.texts import program_of, program_text, step_of, step_text

from tests.samples import ASKER_TEXT, asker, tuples_all_down, with_steps

STEPS = (
    (("set", 0, 1), "set 0 1"),
    (("add", 1, 2), "add 1 2"),
    (("if", 0, 2, 12), "if 0 2 12"),
    (("pick", 3), "pick 3"),
    (("pick", 0, 1), "pick 0 1"),
    (("pick", 0, 1, 10), "pick 0 1 10"),
    (("send", 3, "ask", 0), "send 3 ask 0"),
    (("tell", 0, "abcdefgh", 1), "tell 0 abcdefgh 1"),
    (("wait", 0, ("ask", None, 3)), "wait 0 ask:.:3"),
    (("wait", 1, ("a", 0, 12), ("b", None, 0)), "wait 1 a:0:12 b:.:0"),
    (("wait", 2, ("a", 1, 1), ("b", 0, 2), ("c", None, 3)), "wait 2 a:1:1 b:0:2 c:.:3"),
    (("begin", "helper"), "begin helper"),
    (("begin", "stop"), "begin stop"),
    (("stop",), "stop"),
)

# Steps that no program could have, but of a step's form.
LOOSE = (
    (("set", 999999999, 100), "set 999999999 100"),
    (("if", 7, 7, 7), "if 7 7 7"),
    (("pick", 3, 1, 1), "pick 3 1 1"),
    (("send", 99, "z", 99), "send 99 z 99"),
    (("wait", 9, ("b", 9, 99), ("a", None, 0), ("a", 0, 0)), "wait 9 b:9:99 a:.:0 a:0:0"),
    (("begin", "nobody"), "begin nobody"),
)

NO_STEPS = (
    "", " ", "\n", "halt", "Stop", "STOP", "stop ", " stop", "stop\n", "\nstop", "stop 0", "stop stop",
    "stop\nstop", "stop\r", "set", "set 0", "set 0 1 2", "set  0 1", "set 0  1", "set 0 1 ", " set 0 1", "set\t0 1",
    "set 0\n1", "set 0 1\n", "set0 1", "set a 1", "set 0 a", "set . 1", "set -1 0", "set +1 0", "set 0 -0",
    "set 00 1", "set 01 1", "set 0 01", "set 0 1.0", "set 0 1e1", "set 0 1_0", "set 0 0x1", "set 1234567890 0",
    "set 0 1000000000", "set 0 0000000001", "set None 0", "set True 0", "set 0 \u0661", "set 0 \u00b2",
    "set 0 \uff11", "add 0", "add 0 1 1", "if 0 1", "if 0 1 2 3", "if 0 a 1", "pick", "pick ", "pick 0 1 2 3",
    "pick a", "pick 0,1", "pick (0)", "send 0 ask", "send 0 ask 1 1", "send ask 0 1", "send 0 1 ask",
    "send 0 Ask 1", "send 0 abcdefghi 1", "send 0  1", "send 0 a1 1", "send a ask 1", "send 0 ask b",
    "send 0 \u00e4 1", "tell 0 ask", "tell 0 ask .", "tell 0 ask 1 1", "tell 0 12 1", "wait", "wait 0", "wait 0 ",
    "wait 0 a:0:0 b:0:0 c:0:0 d:0:0", "wait a:0:0", "wait a:0:0 0", "wait 0 a", "wait 0 a:0", "wait 0 a:0:0:0",
    "wait 0 a::0", "wait 0 :0:0", "wait 0 a:0:", "wait 0 a:0:.", "wait 0 .:0:0", "wait 0 a:..:0", "wait 0 a:-:0",
    "wait 0 a:00:0", "wait 0 a:0:00", "wait 0 a:None:0", "wait 0 a: .:0", "wait 0 a :0:0", "wait 0 a:0:0  b:0:0",
    "wait 0 a:0:0,b:0:0", "wait 0 A:0:0", "wait 0 abcdefghi:0:0", "wait 0 a:1234567890:0", "wait 0 a:0:1234567890",
    "wait 0 a:0:0 ", "wait . a:0:0", "begin", "begin ", "begin 0", "begin a b", "begin A", "begin abcdefghi",
    "begin .", "begin\na", "road row 2", "role a 0", "hand a", "row", "get 0 1",
)

SMALL = "road row 2\nrole a 1\nset 0 1\nwait 0 b:.:0\nhand a"


class Steps(unittest.TestCase):

    def test_written_and_read_back(self):
        for step, line in STEPS + LOOSE:
            with self.subTest(line):
                self.assertEqual(step_text(step), line)
                read = step_of(line)
                self.assertEqual(read, step)
                self.assertTrue(tuples_all_down(read))
                self.assertEqual(step_of(line), read)

    def test_no_steps(self):
        for line in NO_STEPS:
            with self.subTest(line):
                with self.assertRaises(NoText):
                    step_of(line)

    def test_written_beyond_the_bounds(self):
        self.assertEqual(step_text(("pick", 0, 1, 2, 3)), "pick 0 1 2 3")
        self.assertEqual(step_text(("send", 0, "abcdefghij", 12)), "send 0 abcdefghij 12")
        arms = (("a", 0, 0), ("b", 3, 20), ("c", 0, 0), ("d", None, 0))
        self.assertEqual(step_text(("wait", 5) + arms), "wait 5 a:0:0 b:3:20 c:0:0 d:.:0")


class Programs(unittest.TestCase):

    def there_and_back(self, program, text):
        self.assertTrue(is_program(program))
        self.assertEqual(program_text(program), text)
        read = program_of(text)
        self.assertEqual(read, program)
        self.assertTrue(tuples_all_down(read))
        self.assertEqual(program_of(text), read)

    def test_ordinary(self):
        self.there_and_back(asker(), ASKER_TEXT)

    def test_least(self):
        self.there_and_back(((), (("a", 0, (("stop",),)),), ("a",)), "role a 0\nstop\nhand a")

    def test_each_road(self):
        for order in ("row", "heap"):
            for most in (1, 2, 3):
                for loses, end in ((True, " loses"), (False, "")):
                    program = with_steps(("stop",), roads=((order, most, loses),))
                    text = f"road {order} {most}{end}\nrole main 2\nstop\nhand main"
                    self.there_and_back(program, text)
        self.there_and_back(with_steps(("stop",), roads=(("row", None, True),)),
                            "road row wide loses\nrole main 2\nstop\nhand main")

    def test_greatest(self):
        steps = (("wait", 3, ("aaaaaaaa", 0, 12), ("aaaaaaab", 1, 0), ("b", None, 11)),) * 12
        names = ("road", "role", "hand", "stop")
        program = ((("row", 3, True),) * 4, tuple((name, 2, steps) for name in names), names)
        line = "wait 3 aaaaaaaa:0:12 aaaaaaab:1:0 b:.:11"
        lines = ["road row 3 loses"] * 4
        for name in names:
            lines += [f"role {name} 2"] + [line] * 12
        lines += [f"hand {name}" for name in names]
        self.there_and_back(program, "\n".join(lines))

    def test_written_beyond_the_bounds(self):
        program = ((("row", 12, False),) * 5, (("abcdefghij", 5, (("set", 4, 7),)),), ("abcdefghij",) * 5)
        text = "\n".join(["road row 12"] * 5 + ["role abcdefghij 5", "set 4 7"] + ["hand abcdefghij"] * 5)
        self.assertEqual(program_text(program), text)

    def refused(self, texts):
        for text in texts:
            with self.subTest(text[:300]):
                with self.assertRaises(NoText):
                    program_of(text)

    def test_blanks_and_line_ends(self):
        program_of(SMALL)
        self.refused(["", " ", "\n", "\n\n", "a", SMALL + "\n", "\n" + SMALL, SMALL + " ", " " + SMALL])
        self.refused_for("\n", (" \n", "\n ", "\n\n", "\r\n", "\r", " ", "", "\x0b", "\u2028"))
        self.refused_for(" ", ("  ", "\t", "", "_"))

    def test_lines_left_out_or_in_another_order(self):
        lines = SMALL.split("\n")
        for order in (
            (0, 1, 4), (1, 2, 3, 4), (0, 2, 3, 4), (0, 1, 2, 3), (4, 3, 2, 1, 0), (1, 0, 2, 3, 4), (1, 2, 3, 0, 4),
            (1, 2, 3, 4, 0), (0, 2, 1, 3, 4), (0, 1, 2, 4, 3), (0, 4, 1, 2, 3), (4, 0, 1, 2, 3), (2, 0, 1, 3, 4),
            (0, 1, 2, 3, 1, 4), (0, 1, 2, 3, 4, 1, 2), (0, 1, 2, 3, 4, 2),
        ):
            self.refused(["\n".join([lines[k] for k in order])])

    def refused_for(self, old, news):
        self.refused([SMALL.replace(old, new) for new in news])

    def test_lines_of_roads_that_are_none(self):
        self.refused_for("road row 2", (
            "road row", "road 2", "road", "road row 2 lose", "road row 2 loses loses", "road row 2 true",
            "road 2 row", "road pile 2", "road row two", "road row 02", "road row +2", "road row -2",
            "road row 1234567890", "Road row 2", "road row 2 ", "road row wide wide", "road row None loses",
            "road wide loses", "road row loses", "road row 2 1", "roads row 2", "road row . loses", "row 2",
        ))

    def test_other_lines_that_are_none(self):
        self.refused_for("role a 1", (
            "role a", "role 1", "role", "role a 1 1", "role 1 a", "role A 1", "role abcdefghi 1", "role a 01",
            "role a one", "role a .", "role  1", "roles a 1", "role a -1", "role a 1234567890",
        ))
        self.refused_for("hand a", ("hand", "hand a a", "hand A", "hand 0", "hand ", "hand abcdefghi", "hands a"))
        self.refused_for("set 0 1", ("set 0 01", "set 0", "halt", "set 0 1 1", "", "set 0 1234567890"))

    def test_lines_that_make_no_program(self):
        five_roads = "\n".join(["road row 1"] * 5)
        self.refused_for("road row 2", (
            "road row wide", "road heap wide", "road heap wide loses", "road row 0", "road row 4", five_roads,
        ))
        self.refused_for("role a 1", (
            "role a 3", "role a 0", "role b 1", "role a 1\nstop\nrole a 1", "role b 1\nrole a 1",
        ))
        self.refused_for("hand a", ("hand b", "hand a\nhand b", "\n".join(["hand a"] * 5)))
        five_roles = [f"role {name} 0\nstop" for name in "abcde"]
        self.refused(["\n".join(five_roles + ["hand a"])])
        self.refused([
            "stop", "hand a", "road row 1", "role a 0", "role a 0\nhand a", "stop\nrole a 0\nstop\nhand a",
        ])

    def test_steps_that_make_no_program(self):
        self.refused_for("set 0 1", (
            "set 0 3", "set 1 1", "if 0 0 4", "pick 3", "pick 1 0", "pick 1 1", "send 1 a 0", "send 0 a 3",
            "tell 0 a 1", "begin b", "wait 0 b:0:0 a:0:0", "wait 0 a:0:0 a:0:0", "wait 0 a:1:0", "wait 0 a:0:4",
            "wait 1 a:0:0", "\n".join(["stop"] * 12),
        ))

    def test_long_texts(self):
        self.refused(["\n" * 20000, "a" * 20000, "stop\n" * 4000, "road row 1\n" * 1800, "role a 0\n" * 2000])

    def test_whatever_is_read_is_what_is_written(self):
        chance = random.Random(1)
        signs = "\n\n  .:0123459abehlopstwRA-+\u00b2"
        for text in (SMALL, ASKER_TEXT):
            for place in range(len(text) + 1):
                for changed in [text[:place] + text[place + 1:]] + [
                    text[:place] + sign + text[place + width:] for sign in chance.sample(signs, 8) for width in (0, 1)
                ]:
                    try:
                        program = program_of(changed)
                    except NoText:
                        continue
                    self.assertTrue(is_program(program))
                    self.assertEqual(program_text(program), changed)


if __name__ == "__main__":
    unittest.main()
