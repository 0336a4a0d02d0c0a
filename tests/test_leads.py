"""[10.1] to [10.4], and what [9.4] says of leading: open worlds, books of leads, and lassos told."""

import copy
import random
import unittest

from lettermoat.claims import is_claim, is_so
from lettermoat.errors import NoClaim, NoWorlds, TooMany
from lettermoat.graphs import ahead, all_worlds
from lettermoat.knots import helper_of, is_bare, knots_of
from lettermoat.leads import leads_book_stands, leads_told, open_worlds
from lettermoat.loops import lasso_stands
from lettermoat.texts import program_of
from lettermoat.worlds import choices, moved, start_world

from tests.samples import NEVER, NO_CLAIMS, SOME_TIME, TALK, WIDE, random_claim, small_programs, tuples_all_down
from tests.samples import with_steps

# What is asked is answered: the helper has no choice, and no letter is lost.
ANSWERS = program_of("""road row 1
road row 1
role asker 0
send 0 ask 0
wait 1 yes:.:0
role helper 0
wait 0 ask:.:1
send 1 yes 0
pick 0
hand asker
hand helper""")

# As before, but answers may be lost.
LOSES = program_of("""road row 1
road row 1 loses
role asker 0
send 0 ask 0
wait 1 yes:.:0
role helper 0
wait 0 ask:.:1
send 1 yes 0
pick 0
hand asker
hand helper""")

# One hand goes round for ever, another one goes three steps.
BESIDE = ((), (("round", 0, (("pick", 0),)), ("goes", 0, (("pick", 1), ("pick", 2), ("stop",)))), ("round", "goes"))

ASKED = ("on", 0, "ask", 1)
ANSWERED = ("on", 1, "yes", 1)
AT_END = ("at", "goes", 2, 1)


def at(first, second):
    return ((("round", first, ()), ("goes", second, ())), ())


def open_by_words(program, p, q, worlds):
    found = [world for world in worlds if (p is None or is_so(world, p)) and not is_so(world, q)]
    for world in found:
        for move, behind in ahead(program, world):
            if not is_so(behind, q) and behind not in found:
                found.append(behind)
    return tuple(sorted(found))


def rank_by_words(program, knots, knot):
    """The rank as 10.3 tells it, straight by its words."""
    ranks = [0]
    for world in knot:
        for move, behind in ahead(program, world):
            for other in knots:
                if other != knot and behind in other:
                    ranks.append(1 + rank_by_words(program, knots, other))
    return max(ranks)


def stands_by_words(program, p, q, worlds, entries):
    """10.2, word for word."""
    if start_world(program) not in worlds or len({entry[0] for entry in entries}) < len(entries):
        return False
    if not all(behind in worlds for world in worlds for move, behind in ahead(program, world)):
        return False
    ranks = {world: (rank, helper) for world, rank, helper in entries}
    for world in worlds:
        if (p is None or is_so(world, p)) and not is_so(world, q) and world not in ranks:
            return False
    for world, rank, helper in entries:
        if world not in worlds or is_so(world, q) or helper not in range(len(world[0])):
            return False
        if not choices(program, world, helper):
            return False
        for move, behind in ahead(program, world):
            lesser = behind in ranks and ranks[behind][0] < rank
            same = ranks.get(behind) == (rank, helper) and not (move[0] == "hand" and move[1] == helper)
            if not is_so(behind, q) and not lesser and not same:
                return False
    return True


def beside_a_round(program):
    """The program with a hand that goes round by itself put ahead of the others."""
    around = ("around", 0, (("pick", 1), ("pick", 0)))
    return (program[0], program[1] + (around,), ("around",) + program[2])


def asks(seed, count, most):
    """Random programs with all their worlds, and with a P, which may be None, and a Q; every other one with a round."""
    rng = random.Random(seed)
    programs = [program for program, worlds in small_programs(seed, 3 * count, most // 2) if len(worlds) > 4][:count]
    for program in programs:
        p = random_claim(rng, program, 2) if rng.random() < 0.7 else None
        q = random_claim(rng, program, 2)
        if is_claim(program, q) and (p is None or is_claim(program, p)):
            told = beside_a_round(program) if rng.random() < 0.5 else program
            yield told, all_worlds(told, 600), p, q


class OpenWorlds(unittest.TestCase):

    def test_ways_without_q(self):
        self.assertEqual(open_worlds(BESIDE, None, AT_END, 600), (at(0, 0), at(0, 1)))
        self.assertEqual(open_worlds(BESIDE, ("at", "goes", 0, 1), AT_END, 600), (at(0, 0), at(0, 1)))
        self.assertEqual(open_worlds(BESIDE, ("at", "goes", 1, 1), AT_END, 600), (at(0, 1),))
        self.assertEqual(open_worlds(BESIDE, AT_END, AT_END, 600), ())

    def test_a_way_through_q_does_not_count(self):
        self.assertEqual(open_worlds(BESIDE, ("at", "goes", 0, 1), ("at", "goes", 1, 1), 600), (at(0, 0),))
        self.assertEqual(open_worlds(BESIDE, None, ("at", "goes", 1, 1), 600), (at(0, 0), at(0, 2)))
        self.assertEqual(open_worlds(BESIDE, None, ("at", "goes", 0, 1), 600), (at(0, 1), at(0, 2)))

    def test_p_to_which_no_run_leads(self):
        program = with_steps(("pick", 0), ("pick", 0), many=0, roads=())
        self.assertEqual(open_worlds(program, ("at", "main", 1, 1), ("at", "main", 2, 1), 600), ())
        self.assertEqual(open_worlds(program, None, ("at", "main", 2, 1), 600), (start_world(program),))

    def test_random(self):
        seen = 0
        for program, worlds, p, q in asks(101, 200, 60):
            told = open_worlds(program, p, q, 600)
            self.assertEqual(told, open_by_words(program, p, q, worlds))
            seen += 0 < len(told) < len(worlds)
        self.assertGreater(seen, 50)


class LeadsTold(unittest.TestCase):

    def test_what_is_asked_is_answered(self):
        word, worlds, entries = leads_told(ANSWERS, ASKED, ANSWERED, 600)
        self.assertEqual(word, "book")
        self.assertEqual(worlds, tuple(sorted(all_worlds(ANSWERS, 600))))
        self.assertEqual([(entry[1], entry[2]) for entry in entries], [(1, 1), (0, 1), (2, 1)])
        self.assertEqual(tuple(entry[0] for entry in entries), open_worlds(ANSWERS, ASKED, ANSWERED, 600))
        self.assertIs(leads_book_stands(ANSWERS, ASKED, ANSWERED, worlds, entries), True)

    def test_again_and_again(self):
        word, worlds, entries = leads_told(ANSWERS, None, ANSWERED, 600)
        self.assertEqual(word, "book")
        self.assertIs(leads_book_stands(ANSWERS, None, ANSWERED, worlds, entries), True)

    def test_an_answer_that_is_lost(self):
        self.assertEqual(leads_told(LOSES, ASKED, ANSWERED, 600)[0], "book")
        taken = ("at", "asker", 0, 1)
        word, stem, loop = leads_told(LOSES, ASKED, taken, 600)
        self.assertEqual(word, "lasso")
        self.assertIs(lasso_stands(LOSES, ASKED, taken, stem, loop), True)
        self.assertIn(("lose", 1, 0), stem)
        self.assertEqual(leads_told(ANSWERS, ASKED, taken, 600)[0], "book")

    def test_a_helper_beside_one_that_goes_round(self):
        entries = ((at(0, 0), 1, 1), (at(0, 1), 0, 1))
        self.assertEqual(leads_told(BESIDE, None, AT_END, 600), ("book", (at(0, 0), at(0, 1), at(0, 2)), entries))

    def test_nothing_is_open(self):
        worlds = tuple(sorted(all_worlds(BESIDE, 600)))
        self.assertEqual(leads_told(BESIDE, AT_END, AT_END, 600), ("book", worlds, ()))
        self.assertIs(leads_book_stands(BESIDE, AT_END, AT_END, worlds, ()), True)

    def test_a_fair_loop(self):
        q = ("at", "goes", 1, 1)
        word, stem, loop = leads_told(BESIDE, AT_END, q, 600)
        self.assertEqual((word, loop), ("lasso", (("hand", 0, 0),)))
        self.assertIs(lasso_stands(BESIDE, AT_END, q, stem, loop), True)

    def test_a_world_that_rests(self):
        program = (BESIDE[0], BESIDE[1], ("goes",))
        word, stem, loop = leads_told(program, None, ("at", "goes", 1, 1), 600)
        self.assertEqual((word, stem, loop), ("lasso", (("hand", 0, 0), ("hand", 0, 0)), ()))

    def test_a_world_that_rests_though_a_letter_may_be_lost(self):
        program = with_steps(("send", 0, "a", 0), ("stop",), roads=(("row", 1, True),), many=0)
        q = ("and", ("at", "main", 1, 1), ("not", ("on", 0, "a", 1)))
        word, stem, loop = leads_told(program, None, q, 600)
        self.assertEqual((word, stem, loop), ("lasso", (("hand", 0, 0),), ()))
        self.assertIs(lasso_stands(program, None, q, stem, loop), True)

    def test_of_a_bare_knot_the_least_hand_that_can_move(self):
        program = ((("row", 1, False),), (
            ("goes", 0, (("pick", 1), ("stop",))), ("waits", 0, (("wait", 0, ("a", None, 1)),)),
        ), ("waits", "goes", "goes"))
        word, worlds, entries = leads_told(program, None, ("at", "goes", 1, 2), 600)
        self.assertEqual([entry[1:] for entry in entries], [(1, 1), (0, 1), (0, 2)])
        self.assertEqual([[hand[1] for hand in entry[0][0]] for entry in entries], [[0, 0, 0], [0, 0, 1], [0, 1, 0]])

    def test_the_greatest_rank_counts(self):
        program = with_steps(("pick", 1, 3), ("pick", 2), ("pick", 3), ("pick", 4), many=0, roads=())
        word, worlds, entries = leads_told(program, None, ("at", "main", 4, 1), 600)
        self.assertEqual([entry[1] for entry in entries], [3, 2, 1, 0])

    def test_the_least_helper_of_a_knot_that_isnt_bare(self):
        program = (BESIDE[0], BESIDE[1], ("goes", "round", "goes"))
        word, worlds, entries = leads_told(program, None, ("at", "goes", 1, 1), 600)
        self.assertEqual(word, "lasso")
        word, worlds, entries = leads_told(program, ("at", "goes", 0, 2), ("at", "goes", 1, 1), 600)
        self.assertEqual((word, entries), ("book", ((start_world(program), 0, 0),)))

    def test_refused_in_order(self):
        wide = ((WIDE,) + TALK[0],) + TALK[1:]
        for told in (leads_told, open_worlds):
            for claim in NO_CLAIMS:
                for program in (TALK, wide):
                    for most in (1, 600):
                        with self.subTest(claim), self.assertRaises(NoClaim):
                            told(program, SOME_TIME, claim, most)
                        if claim is not None:
                            with self.subTest(claim), self.assertRaises(NoClaim):
                                told(program, claim, SOME_TIME, most)
            for p in (None, SOME_TIME):
                for most in (1, 600):
                    with self.assertRaises(NoWorlds):
                        told(wide, p, NEVER, most)
                for most in (1, 14):
                    with self.assertRaises(TooMany):
                        told(TALK, p, NEVER, most)
                told(TALK, p, NEVER, 15)

    def test_too_many_though_a_lasso_is_short(self):
        with self.assertRaises(TooMany):
            leads_told(TALK, SOME_TIME, NEVER, 14)
        with self.assertRaises(TooMany):
            open_worlds(TALK, None, ("at", "asker", 0, 1), 14)

    def test_random(self):
        seen = {"book": 0, "lasso": 0, "loop": 0, "rank": 0, "knot": 0}
        for program, worlds, p, q in asks(102, 600, 70):
            told = leads_told(program, p, q, 600)
            seen[told[0]] += 1
            self.assertTrue(tuples_all_down(told))
            if told[0] == "lasso":
                self.assertIs(lasso_stands(program, p, q, *told[1:]), True)
                seen["loop"] += told[2] != ()
                continue
            self.assertEqual(told[1], tuple(sorted(worlds)))
            self.assertIs(leads_book_stands(program, p, q, *told[1:]), True)
            self.assertTrue(stands_by_words(program, p, q, *told[1:]))
            knots = knots_of(program, open_by_words(program, p, q, worlds))
            wanted = []
            for knot in knots:
                helper = helper_of(program, knot)
                if is_bare(program, knot):
                    helper = min(k for k in range(len(knot[0][0])) if choices(program, knot[0], k))
                wanted += [(world, rank_by_words(program, knots, knot), helper) for world in knot]
                seen["knot"] += len(knot) > 1
            self.assertEqual(told[2], tuple(sorted(wanted)))
            seen["rank"] += max([0] + [entry[1] for entry in wanted]) > 1
        self.assertGreater(min(seen.values()), 15, seen)

    def test_a_long_way(self):
        steps = tuple(("add", k % 2, 1) for k in range(11)) + (("stop",),)
        program = ((), (("main", 2, steps),), ("main", "main"))
        word, worlds, entries = leads_told(program, None, ("at", "main", 11, 2), 600)
        self.assertEqual((word, len(worlds), len(entries)), ("book", 144, 143))
        self.assertEqual(max(entry[1] for entry in entries), 21)
        rounds = tuple(("add", k % 2, 1) for k in range(11)) + (("pick", 0),)
        program = ((), (("main", 2, rounds), ("other", 0, (("pick", 0),))), ("main", "other"))
        q = ("at", "main", 12, 1)
        word, stem, loop = leads_told(program, None, q, 600)
        self.assertIs(lasso_stands(program, None, q, stem, loop), True)


class LeadsBookStands(unittest.TestCase):

    def setUp(self):
        self.worlds = (at(0, 0), at(0, 1), at(0, 2))
        self.entries = ((at(0, 0), 1, 1), (at(0, 1), 0, 1))

    def check(self, wanted, worlds, entries, p=None, q=AT_END, program=BESIDE):
        self.assertIs(stands_by_words(program, p, q, worlds, entries), wanted)
        self.assertIs(leads_book_stands(program, p, q, worlds, entries), wanted)

    def test_good_ones(self):
        self.check(True, self.worlds, self.entries)
        self.check(True, self.worlds, self.entries[1:], ("at", "goes", 1, 1))
        self.check(True, self.worlds, self.entries, ("at", "goes", 1, 1))
        self.check(True, self.worlds, (), AT_END)

    def test_other_ranks(self):
        self.check(True, self.worlds, ((at(0, 0), 9, 1), (at(0, 1), 5, 1)))
        self.check(True, self.worlds, ((at(0, 0), 0, 1), (at(0, 1), -3, 1)))
        self.check(False, self.worlds, ((at(0, 0), 1, 1), (at(0, 1), 1, 1)))
        self.check(False, self.worlds, ((at(0, 0), 0, 1), (at(0, 1), 1, 1)))

    def test_other_helpers(self):
        for helper in (0, 2, -1, 6):
            self.check(False, self.worlds, ((at(0, 0), 1, helper), (at(0, 1), 0, 1)))
            self.check(False, self.worlds, ((at(0, 0), 1, 1), (at(0, 1), 0, helper)))

    def test_a_world_is_missing(self):
        for place in range(3):
            self.check(False, self.worlds[:place] + self.worlds[place + 1:], self.entries)
        self.check(False, (), ())

    def test_an_entry_is_missing(self):
        self.check(False, self.worlds, self.entries[:1])
        self.check(False, self.worlds, self.entries[1:])
        self.check(False, self.worlds, self.entries[:1], ("at", "goes", 0, 1))

    def test_an_entry_too_many(self):
        self.check(False, self.worlds, self.entries + ((at(0, 2), 0, 0),))
        self.check(False, self.worlds, self.entries + ((at(0, 2), 0, 1),))

    def test_two_entries_of_a_world(self):
        self.check(False, self.worlds, ((at(0, 0), 1, 1), (at(0, 0), 2, 1), (at(0, 1), 0, 1)))

    def test_an_entry_whose_world_is_not_among_the_worlds(self):
        program = with_steps(("pick", 1), ("stop",), ("pick", 1), many=0, roads=())
        worlds = tuple(sorted(all_worlds(program, 600)))
        beside = ((("main", 2, ()),), ())
        q = ("at", "main", 1, 1)
        entry = (start_world(program), 0, 0)
        self.check(True, worlds, (entry,), None, q, program)
        self.check(False, worlds, (entry, (beside, 0, 0)), None, q, program)
        self.check(True, worlds + (beside,), (entry, (beside, 0, 0)), None, q, program)
        self.check(False, worlds + (beside,), (entry,), None, q, program)
        self.check(True, worlds + (beside,), (entry,), ("at", "main", 0, 1), q, program)

    def test_a_helper_that_stays(self):
        program = with_steps(("pick", 0, 1), ("stop",), many=0, roads=())
        worlds = tuple(sorted(all_worlds(program, 600)))
        self.check(False, worlds, ((start_world(program), 0, 0),), None, ("at", "main", 1, 1), program)
        self.assertEqual(leads_told(program, None, ("at", "main", 1, 1), 600)[0], "lasso")

    def test_same_rank_and_another_helper(self):
        program = (BESIDE[0], (("round", 0, (("pick", 1), ("pick", 0))), BESIDE[1][1]), ("round", "goes", "goes"))
        q = ("at", "goes", 1, 1)
        worlds = tuple(sorted(all_worlds(program, 600)))
        first, second = open_worlds(program, ("at", "goes", 0, 2), q, 600)
        for helpers in ((1, 1), (2, 2), (1, 2), (2, 1)):
            entries = ((first, 0, helpers[0]), (second, 0, helpers[1]))
            self.check(helpers[0] == helpers[1], worlds, entries, ("at", "goes", 0, 2), q, program)

    def test_what_is_not_rising_or_no_world_does_not_stand(self):
        self.assertIs(leads_book_stands(BESIDE, None, AT_END, tuple(reversed(self.worlds)), self.entries), False)
        swapped = tuple(reversed(self.entries))
        self.assertIs(leads_book_stands(BESIDE, None, AT_END, self.worlds, swapped), False)
        foreign = tuple(sorted(self.worlds + (start_world(TALK),)))
        self.assertIs(leads_book_stands(BESIDE, None, AT_END, foreign, self.entries), False)
        entries = tuple(sorted(self.entries + ((start_world(TALK), 0, 0),)))
        self.assertIs(leads_book_stands(BESIDE, None, AT_END, self.worlds, entries), False)

    def test_loses_are_moves(self):
        program = with_steps(("wait", 0, ("a", None, 1)), ("stop",), roads=(("row", 1, True),), many=0)
        empty = ((("main", 0, ()),), ((),))
        lying = ((("main", 0, ()),), ((("a", 0),),))
        taken = ((("main", 1, ()),), ((),))
        q = ("at", "main", 1, 1)
        p = ("on", 0, "a", 1)
        self.check(False, (empty, lying, taken), ((lying, 0, 0),), p, q, program)
        either = ("or", q, ("not", p))
        self.check(True, (empty, lying, taken), ((lying, 0, 0),), p, either, program)

    def test_wide_is_judged(self):
        program = with_steps(("pick", 1), ("stop",), roads=(WIDE,), many=0)
        start = start_world(program)
        end = moved(program, start, ("hand", 0, 0))
        self.check(True, (start, end), ((start, 0, 0),), None, ("at", "main", 1, 1), program)
        self.check(False, (start, end), (), None, ("at", "main", 1, 1), program)

    def test_refused(self):
        for claim in NO_CLAIMS:
            with self.subTest(claim), self.assertRaises(NoClaim):
                leads_book_stands(TALK, None, claim, (), ())
            if claim is not None:
                with self.subTest(claim), self.assertRaises(NoClaim):
                    leads_book_stands(TALK, claim, NEVER, (), ())

    def test_random_spoilings(self):
        rng = random.Random(103)
        seen = {True: 0, False: 0}
        for program, worlds, p, q in asks(104, 400, 25):
            told = leads_told(program, p, q, 600)
            opened = open_worlds(program, p, q, 600)
            entries = told[2] if told[0] == "book" else tuple((world, 0, 0) for world in opened)
            for k in range(6):
                spoilt = []
                for world, rank, helper in entries:
                    chance = rng.random()
                    if chance < 0.1:
                        rank += rng.choice([-1, 1])
                    elif chance < 0.2:
                        helper = rng.randint(-1, len(world[0]))
                    if chance < 0.95:
                        spoilt.append((world, rank, helper))
                some = tuple(sorted(world for world in worlds if rng.random() < 0.98))
                wanted = stands_by_words(program, p, q, some, tuple(spoilt))
                self.assertIs(leads_book_stands(program, p, q, some, tuple(spoilt)), wanted)
                seen[wanted] += 1
        self.assertGreater(min(seen.values()), 100)


class PlainAnswers(unittest.TestCase):

    def test_plain_data_told_again_the_same_and_nothing_changed(self):
        told = leads_told(ANSWERS, ASKED, ANSWERED, 600)
        handed = (ANSWERS, LOSES, ASKED, ANSWERED, told)
        before = copy.deepcopy(handed)
        for asked in (
            lambda: open_worlds(ANSWERS, ASKED, ANSWERED, 600),
            lambda: leads_told(ANSWERS, ASKED, ANSWERED, 600),
            lambda: leads_told(LOSES, ASKED, ("at", "asker", 0, 1), 600),
            lambda: leads_book_stands(ANSWERS, ASKED, ANSWERED, told[1], told[2]),
        ):
            self.assertTrue(tuples_all_down(asked()))
            self.assertEqual(asked(), asked())
            self.assertEqual(handed, before)


if __name__ == "__main__":
    unittest.main()
