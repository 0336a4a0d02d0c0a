"""[14.3]: the desk."""

import copy
import random
import unittest

from lettermoat.asks import answer
from lettermoat.claims import claim_text, holds, is_claim
from lettermoat.desk import Desk
from lettermoat.errors import LetterError, NoClaim, NoMove, NoText
from lettermoat.runs import run_text, story, worlds_of
from lettermoat.texts import program_text
from lettermoat.worlds import moves, start_world

from tests.samples import ASKER_TEXT, BITS, TALK, random_claim, random_program, tuples_all_down, with_steps

TALK_TEXT = program_text(TALK)

NO_MOVES_TEXTS = (
    "", " ", "-", "0", "0.", ".0", "0.0.0", "0.0 1.1", "0.0 ", " 0.0", "00.0", "0.00", "a.0", "!0", "!", "0.!0",
    "!!0.0", "+0.0", "-1.0", "0,0", "1234567890.0", "0.1234567890", "0.0\n", "0 .0", "hand 0 0",
)

CANT_BE_DONE = ("0.1", "1.0", "1.1", "2.0", "!0.0", "!1.0", "!2.0", "123456789.0", "0.123456789")


def seen(desk):
    """All that a desk tells by itself."""
    return (desk.moves_line(), desk.story_text(), desk.run_line(), desk.holds_now(("at(asker 0 1)", "on(0 ask 1)")))


class Making(unittest.TestCase):

    def test_at_the_start(self):
        desk = Desk(TALK_TEXT)
        self.assertEqual(desk.run_line(), "-")
        self.assertEqual(desk.story_text(), "")
        self.assertEqual(desk.moves_line(), "0.0")

    def test_refused(self):
        for text in ("", "\n", "hand asker", TALK_TEXT + "\n", "\n" + TALK_TEXT, TALK_TEXT + " ", "desk"):
            with self.subTest(text), self.assertRaises(NoText):
                Desk(text)

    def test_two_desks_have_nothing_in_common(self):
        one = Desk(TALK_TEXT)
        other = Desk(TALK_TEXT)
        one.go("0.0")
        self.assertEqual(other.run_line(), "-")
        self.assertEqual(other.moves_line(), "0.0")
        self.assertEqual(one.run_line(), "0.0")


class GoAndBack(unittest.TestCase):

    def test_moves_are_done(self):
        desk = Desk(TALK_TEXT)
        self.assertEqual(desk.go("0.0"), "1.1")
        self.assertEqual(desk.go("1.1"), "1.0 1.1")
        self.assertEqual(desk.go("1.0"), "1.0")
        self.assertEqual(desk.go("1.0"), "0.4 1.0 !1.0")
        self.assertEqual(desk.go("!1.0"), "1.0")
        self.assertEqual(desk.go("1.0"), "-")
        self.assertEqual(desk.moves_line(), "-")
        self.assertEqual(desk.run_line(), "0.0 1.1 1.0 1.0 !1.0 1.0")
        self.assertEqual(desk.story_text(), """0 asker 0 sends ask 1 on 0
1 helper 1 takes ask 1 from 0
2 helper 1 pick
3 helper 1 sends yes 1 on 1
4 road 1 loses yes 1
5 helper 1 if""")

    def test_moves_are_taken_back(self):
        desk = Desk(TALK_TEXT)
        lines = ["0.0", "1.1", "1.0", "1.0", "!1.0", "1.0"]
        told = [seen(desk)]
        for line in lines:
            desk.go(line)
            told.append(seen(desk))
        for line in reversed(lines):
            self.assertEqual(seen(desk), told.pop())
            self.assertEqual(desk.back(), line)
        self.assertEqual(seen(desk), told.pop())
        self.assertEqual(desk.go("0.0"), "1.1")

    def test_go_refused_in_order(self):
        desk = Desk(TALK_TEXT)
        before = seen(desk)
        for line in NO_MOVES_TEXTS:
            with self.subTest(line), self.assertRaises(NoText):
                desk.go(line)
            self.assertEqual(seen(desk), before)
        for line in CANT_BE_DONE:
            with self.subTest(line), self.assertRaises(NoMove):
                desk.go(line)
            self.assertEqual(seen(desk), before)
        self.assertEqual(desk.go("0.0"), "1.1")

    def test_go_refused_behind_some_moves(self):
        desk = Desk(TALK_TEXT)
        desk.go("0.0")
        desk.go("1.1")
        before = seen(desk)
        for line in ("0.0", "1.2", "1.3", "!1.0"):
            with self.subTest(line), self.assertRaises(NoMove):
                desk.go(line)
            self.assertEqual(seen(desk), before)
        self.assertEqual(desk.back(), "1.1")

    def test_back_refused(self):
        desk = Desk(TALK_TEXT)
        before = seen(desk)
        for count in range(2):
            with self.assertRaises(NoMove):
                desk.back()
            self.assertEqual(seen(desk), before)
        desk.go("0.0")
        desk.back()
        with self.assertRaises(NoMove):
            desk.back()
        self.assertEqual(seen(desk), before)

    def test_wide(self):
        desk = Desk(program_text(BITS))
        self.assertEqual(desk.go("0.0"), "1.0 !0.0")
        self.assertEqual(desk.go("!0.0"), "-")
        self.assertEqual(desk.back(), "!0.0")
        self.assertEqual(desk.go("1.0"), "1.0")
        self.assertEqual(Desk(ASKER_TEXT).moves_line(), "0.0 2.0")

    def test_begins(self):
        desk = Desk(program_text(((), (("main", 0, (("begin", "main"), ("stop",))),), ("main",) * 4)))
        self.assertEqual(desk.go("0.0"), "1.0 2.0 3.0 4.0")
        self.assertEqual(desk.go("4.0"), "-")
        self.assertEqual(desk.story_text(), "0 main 0 begins main\n1 main 4 begins main")

    def test_random(self):
        rng = random.Random(161)
        count = 0
        for k in range(60):
            program = random_program(rng)
            desk = Desk(program_text(program))
            run = []
            for step in range(15):
                found = moves(program, worlds_of(program, tuple(run))[-1])
                if found and rng.random() < 0.75:
                    run.append(rng.choice(found))
                    told = desk.go(run_text(run[-1:]))
                    self.assertEqual(told, desk.moves_line())
                elif run:
                    self.assertEqual(desk.back(), run_text((run.pop(),)))
                world = worlds_of(program, tuple(run))[-1]
                self.assertEqual(desk.moves_line(), run_text(moves(program, world)))
                self.assertEqual(desk.run_line(), run_text(tuple(run)))
                self.assertEqual(desk.story_text(), story(program, tuple(run)))
                claim = random_claim(rng, program, 2)
                if is_claim(program, claim):
                    self.assertEqual(desk.holds_now((claim_text(claim),)), (holds(program, world, claim),))
                    count += 1
        self.assertGreater(count, 100)


class HoldsNow(unittest.TestCase):

    def test_claims(self):
        desk = Desk(TALK_TEXT)
        claims = ("at(asker 0 1)", "on(0 ask 1)", "not(on(0 ask 1))", "at(asker 0 1)")
        self.assertEqual(desk.holds_now(claims), (True, False, True, True))
        desk.go("0.0")
        self.assertEqual(desk.holds_now(claims), (False, True, False, False))
        desk.back()
        self.assertEqual(desk.holds_now(claims), (True, False, True, True))
        self.assertEqual(desk.holds_now(()), ())
        for told in desk.holds_now(claims):
            self.assertIsInstance(told, bool)

    def test_refused_in_order(self):
        desk = Desk(TALK_TEXT)
        before = seen(desk)
        good = "at(asker 0 1)"
        none = "at(nobody 0 1)"
        for text in ("", "at(asker 0 0)", "at(asker 13 1)", "any", "at(asker 0 1) ", "None"):
            for claims in ((text,), (good, text), (none, text), (text, none), (text, good)):
                with self.subTest(claims), self.assertRaises(NoText):
                    desk.holds_now(claims)
        for claims in ((none,), (good, none), (none, good), ("at(asker 4 1)",), ("on(2 a 1)",), ("has(asker 1 0 1)",)):
            with self.subTest(claims), self.assertRaises(NoClaim):
                desk.holds_now(claims)
        self.assertEqual(seen(desk), before)


class Asked(unittest.TestCase):

    def test_as_answer_wherever_the_run_is(self):
        desk = Desk(TALK_TEXT)
        lines = ("halt", "never at(asker 3 1)", "never at(asker 2 1)", "leads any to at(asker 3 1)",
                 "moat at(asker 2 1)",
                 "folded at(asker 3 1)", "thinned at(asker 3 1)", "never at(nobody 0 1)")
        for move in ("0.0", "1.1", "1.1"):
            for line in lines:
                self.assertEqual(desk.asked(line), answer(TALK, line))
            desk.go(move)
        self.assertEqual(desk.asked("never at(asker 0 1)"), "run -")
        self.assertEqual(desk.asked("never at(nobody 0 1)"), "refused NoClaim")
        self.assertEqual(Desk(program_text(BITS)).asked("halt"), "refused NoWorlds")

    def test_refused(self):
        desk = Desk(TALK_TEXT)
        desk.go("0.0")
        before = seen(desk)
        for line in ("", "halts", "never", "never any", "0.0"):
            with self.subTest(line), self.assertRaises(NoText):
                desk.asked(line)
        self.assertEqual(seen(desk), before)


class PlainAnswers(unittest.TestCase):

    def test_told_again_the_same_and_nothing_changed(self):
        claims = ("at(asker 0 1)", "on(0 ask 1)")
        before = copy.deepcopy(claims)
        desk = Desk(TALK_TEXT)
        desk.go("0.0")
        for asked in (
            lambda: desk.moves_line(),
            lambda: desk.story_text(),
            lambda: desk.run_line(),
            lambda: desk.holds_now(claims),
            lambda: desk.asked("halt"),
        ):
            self.assertTrue(tuples_all_down(asked()))
            self.assertEqual(asked(), asked())
        self.assertEqual(claims, before)
        self.assertEqual(desk.run_line(), "0.0")

    def test_a_program_that_stops_at_once(self):
        program = with_steps(("stop",))
        desk = Desk(program_text(program))
        self.assertEqual((desk.moves_line(), desk.run_line(), desk.story_text()), ("-", "-", ""))
        self.assertEqual(moves(program, start_world(program)), ())
        for line in NO_MOVES_TEXTS + CANT_BE_DONE:
            with self.assertRaises(LetterError):
                desk.go(line)


if __name__ == "__main__":
    unittest.main()
