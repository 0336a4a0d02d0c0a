"""[6.1], [6.2]: what is a claim, where it holds, whether it grows, and its text."""

import copy
import random
import unittest

from lettermoat.claims import claim_of, claim_text, grows, holds, is_claim
from lettermoat.errors import NoClaim, NoText
from lettermoat.worlds import moved, moves, start_world

from tests.samples import TALK, nest, odd_values, random_claim, random_program, spoilings, tuples_all_down, with_steps

AT = ("at", "asker", 1, 1)
HAS = ("has", "helper", 0, 2, 1)
ON = ("on", 1, "yes", 1)


def deep_not(claim, times):
    for k in range(times):
        claim = ("not", claim)
    return claim


class IsClaim(unittest.TestCase):

    def told(self, wanted, *values):
        for number, value in enumerate(values):
            with self.subTest(number):
                self.assertIs(is_claim(TALK, value), wanted)

    def test_at(self):
        self.told(True, AT, *[("at", "asker", s, 1) for s in (0, 1, 2, 3)], *[("at", "helper", s, 6) for s in (0, 5)])
        self.told(False, *[("at", "asker", s, 1) for s in (-1, 4, 5, True, None, "0")], ("at", "helper", 6, 1))
        self.told(True, *[("at", "asker", 0, n) for n in (1, 2, 3, 4, 5, 6)])
        self.told(False, *[("at", "asker", 0, n) for n in (0, -1, 7, True, None, "1")])
        self.told(False, *[("at", name, 0, 1) for name in ("other", "", "ASKER", 0, None, ("asker",))])
        self.told(False, ("at",), ("at", "asker"), ("at", "asker", 0), ("at", "asker", 0, 1, 1))

    def test_has(self):
        self.told(True, *[("has", "asker", 0, v, 1) for v in (0, 1, 2)], *[("has", "helper", 0, 1, n) for n in (1, 6)])
        self.told(False, *[("has", "asker", 0, v, 1) for v in (-1, 3, True, None)])
        self.told(False, *[("has", "asker", r, 0, 1) for r in (-1, 1, 2, False, None)])
        self.told(False, *[("has", "asker", 0, 0, n) for n in (0, 7, True, None)])
        self.told(False, ("has", "other", 0, 0, 1), ("has", "asker", 0, 0), ("has", "asker", 0, 0, 1, 1), ("has",))
        program = with_steps(("stop",), many=2, others=(("none", 0, (("stop",),)),))
        for name, r, wanted in (("main", 0, True), ("main", 1, True), ("main", 2, False), ("none", 0, False)):
            self.assertIs(is_claim(program, ("has", name, r, 0, 1)), wanted)

    def test_on(self):
        self.told(True, *[("on", road, "yes", 1) for road in (0, 1)], ("on", 0, "abcdefgh", 2), ("on", 0, "never", 1))
        self.told(False, *[("on", road, "yes", 1) for road in (-1, 2, 3, True, None, "0")])
        self.told(False, *[("on", 0, "yes", n) for n in (0, 3, -1, True, None)])
        self.told(False, *[("on", 0, kind, 1) for kind in ("", "Yes", "abcdefghi", 0, None, ("yes",))])
        self.told(False, ("on",), ("on", 0), ("on", 0, "yes"), ("on", 0, "yes", 1, 1))
        self.assertIs(is_claim(with_steps(("stop",), roads=()), ("on", 0, "yes", 1)), False)

    def test_how_many_parts(self):
        for word in ("and", "or"):
            self.told(True, *[(word,) + (AT,) * count for count in (1, 2, 3, 4)])
            self.told(False, *[(word,) + (AT,) * count for count in (0, 5, 6)])
        self.told(True, ("not", AT))
        self.told(False, ("not",), ("not", AT, AT))

    def test_how_deep(self):
        self.told(True, deep_not(AT, 1), deep_not(AT, 2), deep_not(AT, 3))
        self.told(False, deep_not(AT, 4), deep_not(AT, 5), deep_not(AT, 3000))
        self.told(True, ("and", AT, ("or", AT, ("and", AT))), ("or", ("and", ("or", AT))))
        self.told(False, ("and", AT, ("or", AT, ("and", AT, ("or", AT)))), ("not", ("and", ("or", ("and", AT)))))

    def test_how_many_ons(self):
        self.told(True, ("and", ON, ON), ("or", ON, AT, ("not", ON)), ("and", ("not", ON), ("or", AT, ON)))
        self.told(False, ("and", ON, ON, ON), ("or", ON, AT, ("not", ("and", ON, ON))),
                  ("and", ("or", ON, AT), ("or", ON, AT), ("or", AT, ON)))

    def test_words(self):
        self.told(False, ("nor", AT), ("AND", AT), ("", AT), (None, AT), (0, AT), ("At", "asker", 0, 1), (), ("asker",))
        self.told(False, (("and",), AT), (AT,), (AT, AT), ["at", "asker", 0, 1], ("and", ["at", "asker", 0, 1]))

    def test_values_of_any_kind_in_each_place(self):
        good = ("or", AT, ("and", HAS, ("not", ON)))
        self.told(True, good)
        for number, odd in enumerate(odd_values()):
            for spoilt in spoilings(good, odd):
                with self.subTest(number):
                    self.assertIs(is_claim(TALK, spoilt), False)
        self.told(False, (), ((),), nest(3000), 0, "at(asker 0 1)")

    def test_as_wide_and_deep_as_can_be(self):
        claim = AT
        for k in range(3):
            claim = ("and",) + (claim,) * 4
        self.told(True, claim)
        self.told(False, ("or",) + (claim,) * 4)

    def test_random_ones(self):
        rng = random.Random(6)
        for seed in range(300):
            program = random_program(rng)
            claim = random_claim(rng, program)
            self.assertIs(is_claim(program, claim), claim_text(claim).count("on(") <= 2)


class Holds(unittest.TestCase):

    def setUp(self):
        self.program = with_steps(("wait", 0, ("a", 0, 0)), ("pick", 0), roads=(("row", 3, False), ("heap", 3, False)),
                                  others=(("other", 1, (("stop",),)),))
        self.world = (
            (("main", 0, (0, 1)), ("main", 2, (1, 1)), ("other", 0, (1,)), ("main", 2, (2, 1))),
            ((("a", 0), ("b", 1), ("a", 2)), (("a", 1), ("a", 1))),
        )

    def told(self, wanted, *claims):
        for claim in claims:
            with self.subTest(claim):
                self.assertIs(holds(self.program, self.world, claim), wanted)

    def test_at(self):
        self.told(True, ("at", "main", 0, 1), ("at", "main", 2, 1), ("at", "main", 2, 2), ("at", "other", 0, 1))
        self.told(False, ("at", "main", 1, 1), ("at", "main", 0, 2), ("at", "main", 2, 3), ("at", "other", 1, 1))

    def test_has(self):
        self.told(True, ("has", "main", 1, 1, 3), ("has", "main", 0, 0, 1), ("has", "main", 0, 2, 1))
        self.told(False, ("has", "main", 1, 1, 4), ("has", "main", 0, 1, 2), ("has", "other", 0, 0, 1))
        self.told(True, ("has", "other", 0, 1, 1))

    def test_on(self):
        self.told(True, ("on", 0, "a", 1), ("on", 0, "a", 2), ("on", 0, "b", 1), ("on", 1, "a", 2))
        self.told(False, ("on", 0, "b", 2), ("on", 1, "b", 1), ("on", 0, "c", 1))

    def test_and_or_not(self):
        yes = ("at", "main", 0, 1)
        no = ("at", "main", 1, 1)
        self.told(True, ("and", yes), ("and", yes, yes), ("or", yes), ("or", no, yes), ("or", yes, no), ("not", no))
        self.told(False, ("and", no), ("and", yes, no), ("and", no, yes), ("or", no), ("or", no, no), ("not", yes))
        self.told(True, ("not", ("and", yes, no)), ("or", no, ("and", yes, ("not", no))), ("not", ("not", yes)))
        self.told(True, ("and", yes, yes, yes, yes), ("or", no, no, no, yes))
        self.told(False, ("and", yes, yes, yes, no), ("not", ("or", no, yes)))

    def test_refused(self):
        good = ("at", "main", 0, 1)
        for claim in (
            None, (), 0, "at(main 0 1)", ("at", "main", 3, 1), ("at", "none", 0, 1), ("at", "main", 0, 7),
            ("has", "other", 1, 0, 1), ("on", 2, "a", 1), ("on", 0, "a", 3), ("and",), ("or",) + (good,) * 5,
            deep_not(good, 4), ("and",) + (("on", 0, "a", 1),) * 3, ("not", good, good), ("or", good, None),
        ):
            with self.subTest(claim), self.assertRaises(NoClaim):
                holds(self.program, self.world, claim)


class Grows(unittest.TestCase):

    def test_without_not(self):
        for claim in (AT, HAS, ON, ("and", ON, AT), ("or", ON, ("and", AT, ON))):
            self.assertIs(grows(claim), True)

    def test_not_above_no_on(self):
        for claim in (("not", AT), ("and", ON, ("not", ("or", AT, HAS))), deep_not(HAS, 3)):
            self.assertIs(grows(claim), True)

    def test_not_above_an_on(self):
        for claim in (("not", ON), ("not", ("not", ON)), ("not", ("and", AT, ("or", HAS, ON))),
                      ("and", AT, ("or", HAS, ("not", ON))), ("or", ON, ("not", ON)), ("and", ("not", ON), AT)):
            self.assertIs(grows(claim), False)

    def test_more_letters_keep_a_claim_that_grows(self):
        rng = random.Random(8)
        held = 0
        for seed in range(400):
            program = random_program(rng, wide=True)
            claim = random_claim(rng, program)
            if not is_claim(program, claim) or not grows(claim):
                continue
            world = start_world(program)
            for k in range(rng.randint(0, 8)):
                found = moves(program, world)
                world = moved(program, world, rng.choice(found)) if found else world
            wide = [road for road, told in enumerate(program[0]) if told[1] is None][0]
            place = rng.randint(0, len(world[1][wide]))
            load = world[1][wide][:place] + ((rng.choice("abc"), rng.randrange(3)),) + world[1][wide][place:]
            more = (world[0], world[1][:wide] + (load,) + world[1][wide + 1:])
            if holds(program, world, claim):
                held += 1
                self.assertTrue(holds(program, more, claim))
        self.assertGreater(held, 30)


class Texts(unittest.TestCase):

    def test_there_and_back(self):
        for claim, text in (
            (AT, "at(asker 1 1)"),
            (HAS, "has(helper 0 2 1)"),
            (ON, "on(1 yes 1)"),
            (("not", AT), "not(at(asker 1 1))"),
            (("and", AT), "and(at(asker 1 1))"),
            (("and", AT, HAS), "and(at(asker 1 1) has(helper 0 2 1))"),
            (("or", ("and", AT, ON), ("not", ("or", HAS, ON))),
             "or(and(at(asker 1 1) on(1 yes 1)) not(or(has(helper 0 2 1) on(1 yes 1))))"),
            (("or",) + (AT,) * 4, "or(at(asker 1 1) at(asker 1 1) at(asker 1 1) at(asker 1 1))"),
            (deep_not(AT, 3), "not(not(not(at(asker 1 1))))"),
            (("at", "and", 0, 1), "at(and 0 1)"),
        ):
            with self.subTest(text):
                self.assertEqual(claim_text(claim), text)
                self.assertEqual(claim_of(text), claim)

    def test_bounds_are_in(self):
        for text in ("at(a 12 1)", "at(a 0 6)", "at(abcdefgh 0 1)", "has(a 1 2 6)", "has(a 0 0 1)", "on(3 abcdefgh 2)",
                     "on(0 a 1)", "and(on(0 a 1) on(0 a 1))"):
            with self.subTest(text):
                self.assertEqual(claim_text(claim_of(text)), text)

    def test_beyond_the_bounds(self):
        for text in (
            "at(a 13 1)", "at(a 0 0)", "at(a 0 7)", "at(abcdefghi 0 1)", "has(a 2 0 1)", "has(a 0 3 1)", "has(a 0 0 0)",
            "has(a 0 0 7)", "on(4 a 1)", "on(0 a 0)", "on(0 a 3)", "on(0 abcdefghi 1)", "on(1000000000 a 1)",
            "and(on(0 a 1) on(0 a 1) on(0 a 1))", "or(on(0 a 1) not(and(on(0 a 1) on(0 a 1))))",
            "and(" + " ".join(["at(a 0 1)"] * 5) + ")", "or(" + " ".join(["at(a 0 1)"] * 5) + ")",
            "not(at(a 0 1) at(a 0 1))", "not(not(not(not(at(a 0 1)))))", "and(or(and(or(at(a 0 1)))))",
        ):
            with self.subTest(text), self.assertRaises(NoText):
                claim_of(text)

    def test_no_claims(self):
        for text in (
            "", " ", "(", ")", "()", "at", "at(", "at()", "at)", "at(a 0 1", "at a 0 1)", "at(a 0 1))", "(at(a 0 1))",
            " at(a 0 1)", "at(a 0 1) ", "at( a 0 1)", "at(a 0 1 )", "at(a  0 1)", "at (a 0 1)", "at(a 0)",
            "at(a 0 1 1)",
            "at(a 00 1)", "at(a 0 01)", "at(a +1 1)", "at(a -1 1)", "at(A 0 1)", "at(0 0 1)", "at(a b 1)", "at(a,0,1)",
            "AT(a 0 1)", "has(a 0 0)", "has(a 0 0 1 1)", "on(a 0 1)", "on(0 a)", "on(0 0 1)", "and()", "or()", "not()",
            "and", "and( )", "and(at(a 0 1)", "and(at(a 0 1)))", "and(at(a 0 1)  at(a 0 1))", "and( at(a 0 1))",
            "and(at(a 0 1) )", "and(at(a 0 1)at(a 0 1))", "and(at(a 0 1),at(a 0 1))", "and(at(a 0 1)) at(a 0 1)",
            "at(a 0 1) at(a 0 1)", "and(at(a 0 1)) (at(a 0 1))", "nor(at(a 0 1))", "(at(a 0 1) at(a 0 1))",
            "and(a 0 1)",
            "not(a)", "at(a 0 1)\n", "\nat(a 0 1)", "at(a\n0 1)", "and(at(a 0 1)\nat(a 0 1))", "at(at(a 0 1) 0 1)",
            "any", "at(a 0 (1))", "not at(a 0 1)", "at(a 1234567890 1)", "and(at(a 0 1) and)", "at(a:0:1)",
        ):
            with self.subTest(text), self.assertRaises(NoText):
                claim_of(text)

    def test_long_and_deep_texts(self):
        for text in (
            "not(" * 5000, "not(" * 4000 + ")" * 4000, "(" * 20000, ")" * 20000, " " * 20000, "a" * 20000,
            "and(" + " ".join(["at(a 0 1)"] * 1990) + ")", "at(a 0 " + "1" * 19000 + ")", "not()" * 4000,
        ):
            with self.assertRaises(NoText):
                claim_of(text)

    def test_roles_are_not_looked_at(self):
        names = ("a", "b", "c", "d", "e")
        text = "or(and(at(a 0 1) at(b 0 1) at(c 0 1)) at(d 0 1) has(e 1 0 1))"
        self.assertTrue(all(name in text for name in names))
        self.assertEqual(claim_text(claim_of(text)), text)

    def test_random_claims(self):
        rng = random.Random(9)
        for seed in range(300):
            program = random_program(rng)
            claim = random_claim(rng, program)
            if is_claim(program, claim):
                self.assertEqual(claim_of(claim_text(claim)), claim)

    def test_just_what_is_so_written_is_read(self):
        rng = random.Random(10)
        texts = ["and(at(a 0 1) not(on(1 b 2)))", "or(has(a 1 2 6) at(b 12 1))", "not(at(a 10 2))"]
        read = 0
        for count in range(20000):
            text = rng.choice(texts)
            for k in range(rng.randint(1, 2)):
                place = rng.randint(0, len(text) - 1)
                sign = rng.choice(["", " ", "(", ")", "0", "1", "a", text[place] * 2])
                text = text[:place] + sign + text[place + rng.randint(0, 1):]
            try:
                claim = claim_of(text)
            except NoText:
                continue
            read += 1
            self.assertEqual(claim_text(claim), text)
        self.assertGreater(read, 500)


class PlainAnswers(unittest.TestCase):

    def test_plain_data_told_again_the_same_and_nothing_changed(self):
        claim = ("or", AT, ("and", HAS, ("not", ON)))
        world = start_world(TALK)
        before = copy.deepcopy((claim, world, TALK))
        for asked in (
            lambda: is_claim(TALK, claim),
            lambda: holds(TALK, world, claim),
            lambda: grows(claim),
            lambda: claim_text(claim),
            lambda: claim_of("or(at(a 0 1) not(on(0 b 2)))"),
        ):
            told = asked()
            self.assertTrue(tuples_all_down(told))
            self.assertEqual(told, asked())
            self.assertEqual((claim, world, TALK), before)


if __name__ == "__main__":
    unittest.main()
