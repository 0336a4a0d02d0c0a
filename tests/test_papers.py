"""[12.4]: thinned runs, papers that lead runs to them, and entries that aren't as told."""

import copy
import random
import unittest

from lettermoat.claims import is_claim, is_so
from lettermoat.errors import NoClaim, NoMove, NoWitness
from lettermoat.papers import is_thinned, led_by, paper_for
from lettermoat.programs import is_program
from lettermoat.runs import worlds_of
from lettermoat.thinning import is_own, is_rising, sees, thinned_moves, thinned_told
from lettermoat.worlds import moved, moves, start_world, step_at

from tests.samples import NO_CLAIMS, SOME_TIME, TALK, WIDE, is_halt, random_claim, random_program, random_run
from tests.samples import tuples_all_down, with_steps

# Two hands, each with own steps ahead of a send; then both wait for what does not come.
WEAVE = (
    (("row", 2, True),),
    (("one", 1, (("set", 0, 1), ("add", 0, 1), ("tell", 0, "a", 0), ("wait", 0, ("c", None, 4)))),
     ("two", 1, (("pick", 1, 2), ("set", 0, 2), ("send", 0, "b", 0), ("wait", 0, ("c", None, 4))))),
    ("one", "two"),
)

# A hand begins another one, which has a step of its own.
BEGINS = (
    (),
    (("main", 0, (("begin", "other"), ("pick", 2))), ("other", 1, (("set", 0, 1), ("pick", 2), ("stop",)))),
    ("main",),
)

SENT = ("on", 0, "b", 1)
ONE = ("hand", 0, 0)
TWO = ("hand", 1, 0)


def own_rising_unseen(program, claim, hand):
    step = step_at(program, hand)
    if step is None or not is_own(step):
        return False
    return is_rising(program, hand[0], hand[1]) and not sees(program, claim, hand[0], hand[1])


def led_by_words(program, claim, run, paper):
    """12.4, word for word; None where an entry isn't as told."""
    run = list(run)
    for entry in paper:
        worlds = worlds_of(program, tuple(run))
        n = entry[1]
        if entry[0] == "swap":
            if not 0 <= n <= len(run) - 2:
                return None
            pair = run[n:n + 2]
            hands = [move[1] for move in pair if move[0] == "hand"]
            owns = [is_own(step_at(program, world[0][move[1]]))
                    for world, move in zip(worlds[n:n + 2], pair) if move[0] == "hand"]
            if not any(owns) or len(set(hands)) < len(hands):
                return None
            if pair[1] not in moves(program, worlds[n]):
                return None
            between = moved(program, worlds[n], pair[1])
            if pair[0] not in moves(program, between) or moved(program, between, pair[0]) != worlds[n + 2]:
                return None
            run[n:n + 2] = [pair[1], pair[0]]
        else:
            move = entry[2]
            if claim is None or not 0 <= n <= len(run) or move[0] != "hand" or move not in moves(program, worlds[n]):
                return None
            if not own_rising_unseen(program, claim, worlds[n][0][move[1]]):
                return None
            if any(each[:2] == move[:2] for each in run[n:]):
                return None
            run.insert(n, move)
    return tuple(run)


def woven_step(rng, s, count):
    """Mostly a hand's own step, mostly one that goes on."""
    ahead = list(range(s + 1, count + 1))
    word = rng.choice(["set", "add", "if", "if", "pick", "pick", "back", "send", "wait", "begin"])
    if word in ("set", "add"):
        return (word, 0, rng.randrange(3))
    if word == "if":
        return (word, 0, rng.randrange(3), rng.choice(ahead))
    if word == "pick":
        return (word,) + tuple(sorted(rng.sample(ahead, rng.randint(1, min(2, len(ahead))))))
    if word == "back":
        return ("pick",) + tuple(sorted(rng.sample(range(count + 1), 2)))
    if word == "send":
        return rng.choice([("send", 0, "a", 1), ("tell", 0, "b", 0)])
    return ("wait", 0, ("a", 0, rng.randrange(count + 1))) if word == "wait" else ("begin", rng.choice("pq"))


def woven_program(rng):
    roles = []
    for name in "pq":
        count = rng.randint(2, 5)
        roles.append((name, 1, tuple(woven_step(rng, s, count) for s in range(count))))
    road = (rng.choice(["row", "heap"]), rng.randint(1, 2), rng.random() < 0.5)
    program = ((road,), tuple(roles), tuple(rng.choice("pq") for k in range(rng.randint(2, 3))))
    assert is_program(program), program
    return program


def random_entry(rng, program, run):
    worlds = worlds_of(program, run)
    n = rng.randint(-1, len(run) + 1)
    if rng.random() < 0.5:
        return ("swap", n)
    found = moves(program, worlds[min(max(n, 0), len(run))])
    return ("put", n, rng.choice(found) if found and rng.random() < 0.9 else ("hand", rng.randint(0, 3), 0))


class IsThinned(unittest.TestCase):

    def test_runs(self):
        thin = (ONE, ONE, TWO, TWO, TWO, ONE, ("lose", 0, 0))
        self.assertIs(is_thinned(WEAVE, SENT, thin), True)
        self.assertIs(is_thinned(WEAVE, None, thin), True)
        for count in range(len(thin)):
            self.assertIs(is_thinned(WEAVE, None, thin[:count]), True)
        self.assertIs(is_thinned(WEAVE, None, (TWO,)), False)
        self.assertIs(is_thinned(WEAVE, None, (ONE, TWO)), False)
        self.assertIs(is_thinned(WEAVE, None, (ONE, ONE, ONE)), False)

    def test_the_claim_counts(self):
        self.assertIs(is_thinned(WEAVE, ("at", "one", 0, 1), (TWO,)), True)
        self.assertIs(is_thinned(WEAVE, ("at", "one", 0, 1), (ONE,)), False)
        self.assertIs(is_thinned(WEAVE, ("not", ("at", "one", 3, 1)), (TWO,)), False)

    def test_each_choice_of_the_hand(self):
        for choice in (0, 1):
            self.assertIs(is_thinned(WEAVE, None, (ONE, ONE, ("hand", 1, choice))), True)

    def test_refused_in_order(self):
        for claim in NO_CLAIMS[1:]:
            for run in ((), (("hand", 9, 0),)):
                with self.subTest(claim), self.assertRaises(NoClaim):
                    is_thinned(TALK, claim, run)
        for claim in (None, SOME_TIME):
            for run in ((("hand", 9, 0),), (ONE, ONE), (("lose", 0, 0),), (TWO, ("hand", -1, 0))):
                with self.subTest(run), self.assertRaises(NoMove):
                    is_thinned(TALK, claim, run)

    def test_random(self):
        rng = random.Random(131)
        seen = {True: 0, False: 0}
        for k in range(600):
            program = rng.choice([random_program, woven_program])(rng)
            claim = rng.choice([None, random_claim(rng, program, 2)])
            if claim is not None and not is_claim(program, claim):
                continue
            run = random_run(rng, program, 6)
            wanted = all(move in thinned_moves(program, claim, world)
                         for world, move in zip(worlds_of(program, run), run))
            self.assertIs(is_thinned(program, claim, run), wanted)
            seen[wanted] += 1
        self.assertGreater(min(seen.values()), 100)


class PaperFor(unittest.TestCase):

    def check(self, program, claim, run):
        paper = paper_for(program, claim, run)
        self.assertTrue(tuples_all_down(paper))
        led = led_by(program, claim, run, paper)
        self.assertEqual(led, led_by_words(program, claim, run, paper))
        self.assertIs(is_thinned(program, claim, led), True)
        before = worlds_of(program, run)[-1]
        after = worlds_of(program, led)[-1]
        if claim is None:
            self.assertEqual(after, before)
            self.assertEqual(sorted(led), sorted(run))
        else:
            self.assertIs(is_so(after, claim), is_so(before, claim))
        return paper

    def test_a_thinned_run_needs_none(self):
        self.assertEqual(paper_for(WEAVE, SENT, ()), ())
        self.assertEqual(led_by(WEAVE, SENT, (ONE, ONE), ()), (ONE, ONE))
        self.check(WEAVE, SENT, (ONE, ONE, TWO, TWO, TWO))

    def test_moves_that_come_later_are_swapped(self):
        for run in ((TWO, ONE), (TWO, TWO, ONE, TWO, ONE, ONE), (("hand", 1, 1), TWO, ONE, ONE, ONE)):
            self.check(WEAVE, SENT, run)

    def test_moves_that_never_come_are_put_in(self):
        paper = self.check(WEAVE, SENT, (TWO, TWO, TWO))
        self.assertEqual([entry[0] for entry in paper], ["put", "put"])
        self.check(WEAVE, SENT, (TWO, TWO, TWO, ("lose", 0, 0)))
        self.check(WEAVE, ("at", "two", 3, 1), (TWO, TWO, TWO))

    def test_a_run_to_a_halt(self):
        run = (TWO, ONE, TWO, ONE, TWO, ONE, ("lose", 0, 0), ("lose", 0, 0))
        self.assertTrue(is_halt(WEAVE, worlds_of(WEAVE, run)[-1]))
        paper = self.check(WEAVE, None, run)
        self.assertEqual({entry[0] for entry in paper}, {"swap"})

    def test_no_halt(self):
        for run in ((), (TWO,), (TWO, ONE, TWO, ONE, TWO, ONE), (ONE, ONE)):
            with self.subTest(run), self.assertRaises(NoWitness):
                paper_for(WEAVE, None, run)
        ended = with_steps(("set", 0, 1))
        with self.assertRaises(NoWitness):
            paper_for(ended, None, (ONE,))

    def test_hands_that_begin(self):
        self.check(BEGINS, ("at", "main", 2, 1), (ONE, ONE, TWO, TWO))
        self.check(BEGINS, ("at", "main", 2, 1), (ONE, ONE))

    def test_wide(self):
        program = ((WIDE,),) + WEAVE[1:]
        self.check(program, SENT, (TWO, TWO, TWO, ("lose", 0, 0), ONE))

    def test_refused_in_order(self):
        for claim in NO_CLAIMS[1:]:
            for run in ((), (("hand", 9, 0),)):
                with self.subTest(claim), self.assertRaises(NoClaim):
                    paper_for(TALK, claim, run)
        for claim in (None, SOME_TIME):
            for run in ((("hand", 9, 0),), (ONE, ONE), (("lose", 0, 0),), (TWO, ("hand", -1, 0))):
                with self.subTest(run), self.assertRaises(NoMove):
                    paper_for(TALK, claim, run)

    def test_random_runs(self):
        rng = random.Random(132)
        seen = {"swap": 0, "put": 0, "halts": 0}
        for k in range(1500):
            program = rng.choice([random_program, woven_program])(rng)
            run = random_run(rng, program, 12)
            if is_halt(program, worlds_of(program, run)[-1]):
                self.check(program, None, run)
                seen["halts"] += 1
            else:
                with self.assertRaises(NoWitness):
                    paper_for(program, None, run)
            claim = random_claim(rng, program, 2)
            if is_claim(program, claim):
                for entry in self.check(program, claim, run):
                    seen[entry[0]] += 1
        self.assertGreater(min(seen.values()), 100)

    def test_no_thinned_run_is_shorter_than_the_told_one(self):
        rng = random.Random(133)
        runs = 0
        for k in range(300):
            program = random_program(rng, most_steps=3)
            claim = random_claim(rng, program, 1)
            run = random_run(rng, program, 8)
            if is_so(worlds_of(program, run)[-1], claim):
                led = led_by(program, claim, run, paper_for(program, claim, run))
                word, told = thinned_told(program, claim, 10 ** 5)
                self.assertEqual(word, "run")
                self.assertLessEqual(len(told), len(led))
                runs += 1
        self.assertGreater(runs, 50)

    def test_a_long_run(self):
        rng = random.Random(134)
        program = (WEAVE[0], (("one", 1, (("set", 0, 1), ("add", 0, 1), ("pick", 3), ("pick", 0))),), ("one",) * 4)
        run = random_run(rng, program, 200)
        self.assertEqual(len(run), 200)
        self.check(program, ("on", 0, "a", 1), run)


class LedBy(unittest.TestCase):

    def refused(self, program, claim, run, paper):
        with self.assertRaises(NoWitness):
            led_by(program, claim, run, paper)

    def test_swaps(self):
        self.assertEqual(led_by(WEAVE, SENT, (TWO, ONE), (("swap", 0),)), (ONE, TWO))
        self.assertEqual(led_by(WEAVE, None, (TWO, ONE, TWO), (("swap", 1), ("swap", 1))), (TWO, ONE, TWO))
        self.assertEqual(led_by(WEAVE, None, (TWO, TWO, ONE), (("swap", 1), ("swap", 0))), (ONE, TWO, TWO))

    def test_a_swap_of_an_own_step_and_a_send_or_a_lose(self):
        run = (ONE, ONE, ONE, TWO, ("lose", 0, 0))
        self.assertEqual(led_by(WEAVE, None, run, (("swap", 2),)), (ONE, ONE, TWO, ONE, ("lose", 0, 0)))
        self.assertEqual(led_by(WEAVE, None, run, (("swap", 3),)), (ONE, ONE, ONE, ("lose", 0, 0), TWO))
        self.assertEqual(led_by(WEAVE, None, run, (("swap", 3), ("swap", 3))), run)

    def test_a_swap_may_be_of_an_own_step_that_is_seen_or_goes_back(self):
        program = ((), (("round", 0, (("pick", 0),)), ("goes", 0, (("pick", 1), ("stop",)))), ("round", "goes"))
        self.assertEqual(led_by(program, ("at", "goes", 1, 1), (ONE, TWO), (("swap", 0),)), (TWO, ONE))

    def test_no_such_places(self):
        for n in (-2, -1, 1, 2, 10 ** 9):
            self.refused(WEAVE, SENT, (TWO, ONE), (("swap", n),))
        self.refused(WEAVE, SENT, (), (("swap", 0),))
        self.refused(WEAVE, SENT, (ONE,), (("swap", 0),))
        for n in (-1, 3):
            self.refused(WEAVE, SENT, (TWO, TWO), (("put", n, ONE),))

    def test_a_swap_of_one_hand(self):
        self.refused(WEAVE, SENT, (ONE, ONE), (("swap", 0),))
        program = with_steps(("pick", 0, 1), ("stop",), many=0)
        self.refused(program, None, (ONE, ONE), (("swap", 0),))

    def test_a_swap_without_an_own_step(self):
        run = (ONE, ONE, TWO, TWO, TWO, ONE, ("lose", 0, 0), ("lose", 0, 0))
        for n in (4, 5, 6):
            self.refused(WEAVE, SENT, run, (("swap", n),))
        apart = (
            (("row", 1, False), ("row", 1, False)),
            (("one", 0, (("send", 0, "a", 0),)), ("two", 0, (("send", 1, "a", 0),))),
            ("one", "two"),
        )
        self.refused(apart, None, (ONE, TWO), (("swap", 0),))

    def test_a_swap_ahead_of_the_hands_begin(self):
        self.refused(BEGINS, ("at", "main", 2, 1), (ONE, TWO), (("swap", 0),))
        self.assertEqual(led_by(BEGINS, None, (ONE, ONE, TWO), (("swap", 1),)), (ONE, TWO, ONE))

    def test_a_swap_back_of_an_own_step_behind_a_begin(self):
        program = (BEGINS[0], BEGINS[1], ("other", "main"))
        self.assertEqual(led_by(program, None, (TWO, ONE), (("swap", 0),)), (ONE, TWO))
        self.assertEqual(led_by(program, None, (ONE, TWO), (("swap", 0),)), (TWO, ONE))

    def test_puts(self):
        self.assertEqual(led_by(WEAVE, SENT, (TWO, TWO), (("put", 0, ONE),)), (ONE, TWO, TWO))
        self.assertEqual(led_by(WEAVE, SENT, (TWO, TWO), (("put", 1, ONE),)), (TWO, ONE, TWO))
        self.assertEqual(led_by(WEAVE, SENT, (TWO, TWO), (("put", 2, ONE),)), (TWO, TWO, ONE))
        self.assertEqual(led_by(WEAVE, SENT, (), (("put", 0, ("hand", 1, 1)),)), (("hand", 1, 1),))
        self.assertEqual(led_by(WEAVE, SENT, (TWO,), (("put", 0, ONE), ("put", 1, ONE))), (ONE, ONE, TWO))

    def test_no_puts_for_halts(self):
        self.refused(WEAVE, None, (TWO, TWO), (("put", 0, ONE),))
        self.refused(WEAVE, None, (), (("put", 0, ONE),))

    def test_a_put_of_a_hand_that_moves_behind(self):
        self.refused(WEAVE, SENT, (TWO, ONE), (("put", 0, ONE),))
        self.refused(WEAVE, SENT, (TWO, ONE), (("put", 1, ONE),))
        self.refused(WEAVE, SENT, (TWO,), (("put", 0, ONE), ("put", 0, ONE)))
        self.assertEqual(led_by(WEAVE, SENT, (ONE, TWO), (("put", 1, ONE),)), (ONE, ONE, TWO))

    def test_a_put_of_a_step_that_is_not_own_rising_and_unseen(self):
        self.refused(WEAVE, SENT, (ONE, ONE), (("put", 2, ONE),))
        self.refused(WEAVE, ("has", "one", 0, 1, 1), (), (("put", 0, ONE),))
        self.refused(WEAVE, ("at", "one", 1, 1), (), (("put", 0, ONE),))
        program = with_steps(("pick", 0, 1), ("stop",), many=0)
        self.refused(program, ("on", 0, "a", 1), (), (("put", 0, ("hand", 0, 1)),))

    def test_a_put_that_cant_be_done(self):
        for move in (("hand", 0, 1), ("hand", 2, 0), ("hand", -1, 0), ("hand", 1, 2), ("lose", 0, 0)):
            self.refused(WEAVE, SENT, (), (("put", 0, move),))
        self.refused(WEAVE, SENT, (ONE, ONE, ONE), (("put", 3, ("lose", 0, 0)),))
        self.refused(BEGINS, ("at", "main", 2, 1), (ONE,), (("put", 0, TWO),))
        self.assertEqual(led_by(BEGINS, ("at", "main", 2, 1), (ONE,), (("put", 1, TWO),)), (ONE, TWO))

    def test_entries_of_other_forms(self):
        for entry in ((), ("swap",), ("swap", 0, 0), ("swap", "0"), ("swap", None), ("swap", False), ("put", 0),
                      ("put", 0, ONE, 0), ("put", ONE, 0), ("put", 0, ()), ("put", 0, ("hand", 0)), ("put", False, ONE),
                      ("put", 0, ("hand", 0, False)), ("put", 0, ("hand", False, 0)), ("put", 0, ("foot", 0, 0)),
                      ("put", 0, ("hand", 0, 0, 0)), ("put", 0, ["hand", 0, 0]), ("drop", 0), ("turn", 0, ONE),
                      ["swap", 0], None, 0, "swap", ONE, (0, "swap"), (None, 0)):
            for claim in (SENT, None):
                with self.subTest(entry):
                    self.refused(WEAVE, claim, (TWO, ONE), (entry,))
                    self.refused(WEAVE, claim, (TWO, ONE), (("swap", 0), entry))
                    self.refused(WEAVE, claim, (TWO, ONE), (entry, ("swap", 0)))
                    self.refused(WEAVE, claim, (TWO, TWO), (entry,))
        self.assertEqual(led_by(WEAVE, SENT, (TWO, TWO), (("put", 0, ONE),)), (ONE, TWO, TWO))

    def test_an_entry_is_held_against_the_run_by_then(self):
        self.refused(WEAVE, SENT, (TWO, TWO, ONE), (("swap", 0),))
        self.assertEqual(led_by(WEAVE, SENT, (TWO, TWO, ONE), (("swap", 1), ("swap", 0))), (ONE, TWO, TWO))
        self.refused(WEAVE, SENT, (TWO, TWO, ONE), (("swap", 1), ("swap", 0), ("swap", 1)))

    def test_refused_in_order(self):
        for claim in NO_CLAIMS[1:]:
            for run, paper in (((), ()), ((("hand", 9, 0),), ()), ((), (("swap", 9),))):
                with self.subTest(claim), self.assertRaises(NoClaim):
                    led_by(TALK, claim, run, paper)
        for claim in (None, SOME_TIME):
            for run in ((("hand", 9, 0),), (ONE, ONE), (("lose", 0, 0),)):
                for paper in ((), (("swap", 9),)):
                    with self.subTest(run), self.assertRaises(NoMove):
                        led_by(TALK, claim, run, paper)

    def test_random_papers(self):
        rng = random.Random(135)
        seen = {"good": 0, "bad": 0}
        for k in range(4000):
            program = rng.choice([random_program, woven_program])(rng)
            claim = rng.choice([None, random_claim(rng, program, 1), random_claim(rng, program, 1)])
            run = random_run(rng, program, 8)
            paper = tuple(random_entry(rng, program, run) for count in range(rng.randint(1, 2)))
            wanted = led_by_words(program, claim, run, paper)
            if wanted is None:
                self.refused(program, claim, run, paper)
                seen["bad"] += 1
            else:
                self.assertEqual(led_by(program, claim, run, paper), wanted)
                seen["good"] += 1
        self.assertGreater(min(seen.values()), 200)


class PlainAnswers(unittest.TestCase):

    def test_plain_data_told_again_the_same_and_nothing_changed(self):
        run = (TWO, TWO, ONE, TWO, ONE)
        paper = paper_for(WEAVE, SENT, run)
        handed = (WEAVE, SENT, run, paper, start_world(WEAVE))
        before = copy.deepcopy(handed)
        for asked in (
            lambda: is_thinned(WEAVE, SENT, run),
            lambda: paper_for(WEAVE, SENT, run),
            lambda: led_by(WEAVE, SENT, run, paper),
        ):
            self.assertTrue(tuples_all_down(asked()))
            self.assertEqual(asked(), asked())
            self.assertEqual(handed, before)


if __name__ == "__main__":
    unittest.main()
