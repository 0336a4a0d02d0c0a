"""[8.1], [8.2], [8.3]: moats, which worlds lie in them, which of them stand, and what is told with one."""

import copy
import random
import unittest

from lettermoat.claims import claim_of, holds, is_claim
from lettermoat.errors import NoClaim, TooMany
from lettermoat.floors import floor_of, floors, words_of
from lettermoat.graphs import ahead, all_worlds
from lettermoat.moats import in_moat, moat_stands, moat_told, words_held
from lettermoat.roads import all_within, leasts
from lettermoat.runs import end_of, run_text
from lettermoat.worlds import is_world, start_world

from tests.samples import BITS, TALK, WIDE, all_words, random_growing_claim, random_talk, tuples_all_down
from tests.samples import with_steps, with_words

A = ("a", 0)
B = ("b", 0)
X = ("x", 0)
Y = ("y", 0)

MIXED = claim_of("and(on(0 x 1) on(0 y 1))")

# Five letters may come to lie on the road, whatever of the four floors it is.
FIVE = with_steps(("tell", 0, "a", 0), ("send", 0, "b", 1), ("send", 0, "b", 2), roads=(WIDE,), many=1)


def longest_in(moat):
    return max([len(word) for floor, rows in moat for words in rows for word in words], default=0)


def lies_in(program, moat, world):
    for floor, rows in moat:
        if floor == floor_of(program, world):
            return any(all_within(words, words_of(program, world)) for words in rows)
    return None


def worlds_of_floors(program, moat, longest):
    some = all_words(program, longest)
    if len(some) * len(moat) > 6000:
        return None
    return [with_words(program, floor, words) for floor, rows in moat for words in some]


def stands_as_its_words_say(program, claim, moat):
    """8.2, looked at world by world with words so long as can matter; None where these are too many to look at."""
    if lies_in(program, moat, start_world(program)) is not False:
        return False
    worlds = worlds_of_floors(program, moat, max(longest_in(moat) + 1, 2))
    if worlds is None:
        return None
    for world in worlds:
        if lies_in(program, moat, world) is False:
            if holds(program, world, claim):
                return False
            if any(lies_in(program, moat, behind) is not False for move, behind in ahead(program, world)):
                return False
    return True


def next_round(program, moat):
    """The round behind this one, found world by world; None where these are too many to look at."""
    worlds = worlds_of_floors(program, moat, longest_in(moat) + 1)
    if worlds is None:
        return None
    found = {floor: [] for floor, rows in moat}
    for world in worlds:
        near = [world] + [behind for move, behind in ahead(program, world)]
        if any(lies_in(program, moat, each) for each in near):
            found[floor_of(program, world)].append(words_of(program, world))
    return tuple((floor, leasts(tuple(found[floor]))) for floor, rows in moat)


def first_round(program, claim, most):
    return tuple((floor, words_held(program, floor, claim)) for floor in floors(program, most))


def rounds_by_hand(program, claim, most):
    """The last of the rounds of 8.3, and whether the start is in it; None where they can't be looked at."""
    moat = first_round(program, claim, most)
    while True:
        if lies_in(program, moat, start_world(program)):
            return ("run", moat)
        wider = next_round(program, moat)
        if wider is None:
            return None
        if wider == moat:
            return ("moat", moat)
        moat = wider


def random_talks(seed, count):
    rng = random.Random(seed)
    found = []
    while len(found) < count:
        program = random_talk(rng, rng.choice([1, 1, 2]))
        claim = random_growing_claim(rng, program)
        if is_claim(program, claim):
            try:
                found.append((program, claim, moat_told(program, claim, 60)))
            except TooMany:
                pass
    return found


class InMoat(unittest.TestCase):

    def setUp(self):
        roads = (WIDE, ("row", 1, False), WIDE)
        self.program = with_steps(("send", 0, "a", 0), ("send", 0, "b", 0), roads=roads, many=0)
        self.first = ((("main", 0, ()),), ((), (), ()))
        self.second = ((("main", 1, ()),), ((), (), ()))
        self.moat = ((self.first, (((A, B), ()), ((B,), (A,)))), (self.second, ()))

    def told(self, floor, first, second):
        return in_moat(self.program, self.moat, with_words(self.program, floor, (first, second)))

    def test_in(self):
        for first, second in (((A, B), ()), ((A, A, B), ()), ((B, A, B), (B,)), ((B,), (A,)), ((A, B), (A, A))):
            self.assertIs(self.told(self.first, first, second), True)

    def test_not_in(self):
        for first, second in (((), ()), ((A,), ()), ((B, A), ()), ((B,), (B,)), ((A,), (A, B))):
            self.assertIs(self.told(self.first, first, second), False)
            self.assertIs(self.told(self.second, first, second), False)
        self.assertIs(self.told(self.second, (A, B), (A, B)), False)

    def test_outside(self):
        for floor in (((("main", 2, ()),), ((), (), ())), ((("main", 0, ()),), ((), (A,), ()))):
            self.assertIsNone(self.told(floor, (), ()))
            self.assertIsNone(self.told(floor, (A, B), (A,)))
        self.assertIsNone(in_moat(self.program, (), self.first))

    def test_empty_words_bear_all(self):
        moat = ((self.first, (((), ()),)),)
        self.assertIs(in_moat(self.program, moat, self.first), True)
        self.assertIs(in_moat(self.program, moat, with_words(self.program, self.first, ((A,), (B,)))), True)

    def test_without_wide_roads(self):
        start = start_world(TALK)
        self.assertIs(in_moat(TALK, ((start, ((),)),), start), True)
        self.assertIs(in_moat(TALK, ((start, ()),), start), False)
        self.assertIsNone(in_moat(TALK, (), start))


class WordsHeld(unittest.TestCase):

    def setUp(self):
        self.program = (
            (WIDE, ("row", 2, False), WIDE),
            (("main", 1, (("send", 0, "a", 0), ("send", 0, "a", 1), ("send", 0, "b", 2), ("tell", 2, "a", 0))),),
            ("main",),
        )
        self.floor = ((("main", 0, (0,)),), ((), (("c", 0),), ()))

    def told(self, text):
        return words_held(self.program, self.floor, claim_of(text))

    def test_no_on(self):
        self.assertEqual(self.told("at(main 0 1)"), (((), ()),))
        self.assertEqual(self.told("at(main 1 1)"), ())
        self.assertEqual(self.told("not(at(main 1 1))"), (((), ()),))

    def test_one_on(self):
        self.assertEqual(self.told("on(0 a 1)"), (((("a", 0),), ()), ((("a", 1),), ())))
        self.assertEqual(self.told("on(0 a 2)"), tuple(
            (((("a", first), ("a", second)), ())) for first in (0, 1) for second in (0, 1)))
        self.assertEqual(self.told("on(2 a 1)"), tuple(((), (("a", number),)) for number in (0, 1, 2)))
        self.assertEqual(self.told("on(0 c 1)"), ())
        self.assertEqual(self.told("on(2 b 1)"), ())

    def test_an_on_of_a_road_that_is_not_wide(self):
        self.assertEqual(self.told("on(1 c 1)"), (((), ()),))
        self.assertEqual(self.told("on(1 c 2)"), ())
        self.assertEqual(self.told("and(on(1 c 1) on(0 b 1))"), (((("b", 2),), ()),))

    def test_two_ons_of_one_road_in_either_order(self):
        b = ("b", 2)
        self.assertEqual(self.told("and(on(0 a 1) on(0 b 1))"), (
            ((("a", 0), b), ()), ((("a", 1), b), ()), ((b, ("a", 0)), ()), ((b, ("a", 1)), ()),
        ))
        self.assertEqual(len(self.told("and(on(0 a 2) on(0 b 2))")), 6 * 4)
        self.assertEqual(self.told("and(on(0 b 1) on(0 b 2))"), self.told("on(0 b 2)"))
        self.assertEqual(self.told("and(on(0 b 2) on(0 b 1))"), self.told("on(0 b 2)"))
        self.assertEqual(self.told("or(on(0 b 1) on(0 b 2))"), self.told("on(0 b 1)"))

    def test_two_ons_of_two_roads(self):
        self.assertEqual(self.told("and(on(0 b 1) on(2 a 1))"),
                         tuple((((("b", 2),), (("a", number),))) for number in (0, 1, 2)))
        self.assertEqual(self.told("or(on(0 b 1) on(2 a 1))"),
                         tuple(((), (("a", number),)) for number in (0, 1, 2)) + (((("b", 2),), ()),))

    def test_leasts_alone(self):
        self.assertEqual(self.told("or(on(0 b 2) and(at(main 0 1) on(0 b 1)))"), (((("b", 2),), ()),))
        self.assertEqual(self.told("or(on(0 b 2) at(main 0 1))"), (((), ()),))
        self.assertEqual(self.told("or(on(0 b 2) and(at(main 1 1) on(0 b 1)))"), (((("b", 2),) * 2, ()),))

    def test_without_wide_roads(self):
        self.assertEqual(words_held(TALK, start_world(TALK), ("at", "asker", 0, 1)), ((),))
        self.assertEqual(words_held(TALK, start_world(TALK), ("at", "asker", 1, 1)), ())

    def test_refused(self):
        for claim in (None, (), ("at", "nobody", 0, 1), ("on", 3, "a", 1), ("not", ("on", 0, "a", 1)),
                      ("not", ("not", ("on", 0, "a", 1))), ("and", ("at", "main", 0, 1), ("not", ("on", 1, "a", 1)))):
            with self.subTest(claim), self.assertRaises(NoClaim):
                words_held(self.program, self.floor, claim)

    def test_by_looking_at_all_words(self):
        rng = random.Random(41)
        looked = 0
        for seed in range(400):
            program = random_talk(rng, 1 + seed % 2)
            claim = random_growing_claim(rng, program)
            some = all_words(program, 3)
            if not is_claim(program, claim) or len(some) > 1000:
                continue
            floor = rng.choice(floors(program, 600))
            held = leasts(tuple(words for words in some if holds(program, with_words(program, floor, words), claim)))
            told = words_held(program, floor, claim)
            short = tuple(words for words in told if all(len(word) <= 3 for word in words))
            self.assertEqual(short, held)
            looked += len(held) > 1
        self.assertGreater(looked, 10)


class MoatTold(unittest.TestCase):

    def test_a_moat_by_hand(self):
        program = with_steps(("wait", 0, ("b", None, 1)), ("stop",), ("send", 0, "a", 0), ("send", 0, "b", 0),
                             roads=(WIDE,), many=0)
        first, second = floors(program, 300)
        self.assertEqual(moat_told(program, ("at", "main", 1, 1), 300),
                         ("moat", ((first, (((B,),),)), (second, (((),),)))))
        self.assertEqual(moat_told(program, ("at", "main", 3, 1), 300), ("moat", ((first, ()), (second, ()))))
        self.assertEqual(moat_told(program, ("on", 0, "a", 1), 300),
                         ("moat", ((first, (((A,),),)), (second, (((A,),),)))))

    def test_words_that_grow_back(self):
        program = with_steps(
            ("wait", 0, ("a", None, 1)), ("wait", 0, ("b", None, 2)), ("wait", 0, ("a", None, 3)), ("stop",),
            ("send", 0, "a", 0), ("send", 0, "b", 0), roads=(WIDE,), many=0,
        )
        word, moat = moat_told(program, ("at", "main", 3, 1), 300)
        self.assertEqual(word, "moat")
        self.assertEqual([rows for floor, rows in moat], [(((A, B, A),),), (((B, A),),), (((A,),),), (((),),)])

    def test_a_run(self):
        self.assertEqual(moat_told(BITS, claim_of("at(snd 1 1)"), 300), ("run", (("hand", 0, 0),)))
        word, run = moat_told(BITS, claim_of("at(rcv 3 1)"), 300)
        self.assertEqual(word, "run")
        self.assertTrue(holds(BITS, end_of(BITS, start_world(BITS), run), claim_of("at(rcv 3 1)")))

    def test_it_holds_at_the_start(self):
        self.assertEqual(moat_told(BITS, claim_of("at(snd 0 1)"), 300), ("run", ()))

    def test_a_run_that_must_lose_letters(self):
        program = with_steps(("send", 0, "a", 0), ("send", 0, "b", 0), ("wait", 0, ("b", None, 3)), ("stop",),
                             roads=(WIDE,), many=0)
        word, run = moat_told(program, ("at", "main", 3, 1), 300)
        self.assertEqual((word, run_text(run)), ("run", "0.0 0.0 !0.0 0.0"))

    def test_the_bits_are_kept_apart(self):
        for text in ("and(on(0 x 1) on(0 y 1))", "and(at(snd 0 1) at(rcv 3 1))", "and(at(snd 1 1) on(1 b 1))"):
            claim = claim_of(text)
            word, moat = moat_told(BITS, claim, 300)
            self.assertEqual(word, "moat")
            self.assertEqual(tuple(floor for floor, rows in moat), floors(BITS, 300))
            self.assertIs(moat_stands(BITS, claim, moat), True)

    def test_without_wide_roads(self):
        worlds = tuple(sorted(all_worlds(TALK, 300)))
        self.assertEqual(moat_told(TALK, ("at", "asker", 2, 1), 300), ("moat", tuple((world, ()) for world in worlds)))
        word, run = moat_told(TALK, ("on", 1, "no", 1), 300)
        self.assertEqual(word, "run")
        self.assertTrue(holds(TALK, end_of(TALK, start_world(TALK), run), ("on", 1, "no", 1)))

    def test_moves_that_lead_to_the_claim_without_letters(self):
        program = (
            (WIDE, ("heap", 1, True)),
            (("main", 1, (("send", 1, "a", 0), ("wait", 0, ("z", None, 2)), ("pick", 3), ("stop",))),),
            ("main",),
        )
        claim = ("and", ("at", "main", 1, 1), ("not", ("at", "main", 3, 1)))
        self.assertEqual(moat_told(program, claim, 300), ("run", (("hand", 0, 0),)))

    def test_refused_with_no_claim_first(self):
        for claim in (None, (), ("at", "nobody", 0, 1), ("on", 2, "x", 1), ("not", ("on", 0, "x", 1)),
                      ("or", ("at", "snd", 0, 1), ("not", ("and", ("at", "snd", 0, 1), ("on", 0, "x", 1))))):
            for most in (1, 300):
                with self.subTest(claim), self.assertRaises(NoClaim):
                    moat_told(BITS, claim, most)

    def test_too_many_floors(self):
        for text in ("at(snd 4 1)", "at(snd 0 1)"):
            with self.assertRaises(TooMany):
                moat_told(BITS, claim_of(text), 19)
            self.assertIn(moat_told(BITS, claim_of(text), 20)[0], ("run", "moat"))

    def test_too_many_leasts_in_the_first_round(self):
        claim = claim_of("or(on(0 a 1) on(0 b 1))")
        self.assertEqual(len(floors(FIVE, 4)), 4)
        with self.assertRaises(TooMany):
            moat_told(FIVE, claim, 4)
        self.assertEqual(moat_told(FIVE, claim, 5), ("run", (("hand", 0, 0),)))

    def test_too_many_is_looked_at_ahead_of_the_start(self):
        claim = claim_of("or(at(main 0 1) on(0 a 2))")
        self.assertEqual(sum(len(rows) for floor, rows in first_round(FIVE, claim, 600)), 28)
        with self.assertRaises(TooMany):
            moat_told(FIVE, claim, 6)
        self.assertEqual(moat_told(FIVE, claim, 7), ("run", ()))

    def test_too_many_leasts_in_a_later_round(self):
        claim = claim_of("and(at(snd 0 1) on(0 y 2))")
        self.assertLess(sum(len(rows) for floor, rows in first_round(BITS, claim, 600)), 20)
        word, moat = moat_told(BITS, claim, 300)
        count = sum(len(rows) for floor, rows in moat)
        self.assertEqual((word, count), ("moat", 206))
        for most in (20, 51):
            with self.assertRaises(TooMany):
                moat_told(BITS, claim, most)
        self.assertEqual(moat_told(BITS, claim, 52), (word, moat))

    def test_rounds_behind_the_one_with_the_start_are_not_gone_through(self):
        claim = claim_of("or(and(at(snd 1 1) at(rcv 0 1)) and(on(0 x 2) on(1 a 2)))")
        self.assertEqual(moat_told(BITS, claim, 20), ("run", (("hand", 0, 0),)))
        claim = claim_of("or(and(at(snd 1 1) at(rcv 0 1)) and(on(0 x 2) on(0 y 2)))")
        self.assertEqual(sum(len(rows) for floor, rows in first_round(BITS, claim, 600)), 115)
        with self.assertRaises(TooMany):
            moat_told(BITS, claim, 28)
        self.assertEqual(moat_told(BITS, claim, 29), ("run", (("hand", 0, 0),)))

    def test_a_lose_on_a_road_that_is_not_wide(self):
        program = (
            (("row", 1, True), WIDE),
            (("waits", 0, (("wait", 1, ("a", None, 0)), ("send", 1, "a", 0))),
             ("sends", 0, (("send", 0, "b", 0), ("send", 0, "b", 0)))),
            ("waits", "sends"),
        )
        word, run = moat_told(program, ("at", "sends", 2, 1), 300)
        self.assertEqual((word, run_text(run)), ("run", "1.0 !0.0 1.0"))

    def test_leasts_alone_of_one_round(self):
        program = with_steps(("pick", 1, 2), ("stop",), ("stop",), ("send", 0, "a", 0), roads=(WIDE,), many=0)
        claim = claim_of("or(and(at(main 1 1) on(0 a 1)) and(at(main 2 1) on(0 a 2)))")
        word, moat = moat_told(program, claim, 300)
        self.assertEqual((word, [rows for floor, rows in moat]), ("moat", [(((A,),),), (((A,),),), (((A, A),),)]))

    def test_random_programs(self):
        told_as = {"run": 0, "moat": 0, "rich": 0, "rounds": 0}
        for program, claim, (word, told) in random_talks(42, 250):
            told_as[word] += 1
            if word == "run":
                self.assertTrue(holds(program, end_of(program, start_world(program), told), claim))
            else:
                told_as["rich"] += longest_in(told) > 0
                self.assertIs(moat_stands(program, claim, told), True)
            by_hand = rounds_by_hand(program, claim, 60)
            if by_hand is not None:
                told_as["rounds"] += by_hand[1] != first_round(program, claim, 60)
                self.assertEqual(by_hand[0], word)
                self.assertTrue(word == "run" or by_hand[1] == told)
        self.assertGreater(min(told_as.values()), 20)


class MoatStands(unittest.TestCase):

    def setUp(self):
        self.moat = moat_told(BITS, MIXED, 300)[1]

    def told(self, wanted, moat, claim=MIXED):
        self.assertIs(moat_stands(BITS, claim, moat), wanted)

    def test_as_told(self):
        self.told(True, self.moat)
        self.told(False, self.moat, claim_of("at(snd 1 1)"))

    def test_no_entry_of_the_start(self):
        self.told(False, ())
        place = [floor for floor, rows in self.moat].index(start_world(BITS))
        self.told(False, self.moat[:place] + self.moat[place + 1:])

    def test_the_start_is_in(self):
        self.told(False, tuple((floor, (((), ()),)) for floor, rows in self.moat))

    def test_each_least_is_needed(self):
        for place, (floor, rows) in enumerate(self.moat):
            for number in range(len(rows)):
                fewer = rows[:number] + rows[number + 1:]
                self.told(False, self.moat[:place] + ((floor, fewer),) + self.moat[place + 1:])

    def test_entries_not_as_a_moat_has_them(self):
        floor, rows = self.moat[0]
        rest = self.moat[1:]
        self.told(False, tuple(reversed(self.moat)))
        self.told(False, self.moat[:1] + self.moat)
        self.told(False, ((floor, rows[::-1]),) + rest)
        self.told(False, ((floor, rows + rows[-1:]),) + rest)
        self.told(False, ((floor, tuple(sorted(rows + (((X, Y, X), ()),)))),) + rest)
        self.told(False, ((floor, tuple(sorted(rows + (((("z", 0),), ()),)))),) + rest)
        self.told(False, ((floor, tuple(sorted(rows + (((("a", 0),), ()),)))),) + rest)
        self.told(False, ((floor, rows + (((Y,) * 9, (), ()),)),) + rest)
        self.told(False, ((floor, rows + (((Y,) * 9,),)),) + rest)
        raised = (floor[0], ((X,), ()))
        self.told(False, tuple(sorted(self.moat + ((raised, ()),))))

    def test_an_entry_of_a_floor_to_which_nothing_leads(self):
        hands = (("rcv", 5, ()), ("snd", 4, ()), ("snd", 4, ()))
        free = (hands, ((), ()))
        self.assertTrue(is_world(BITS, free))
        needed = words_held(BITS, free, MIXED)
        self.told(True, tuple(sorted(self.moat + ((free, needed),))))
        self.told(True, tuple(sorted(self.moat + ((free, (((), ()),)),))))
        self.told(False, tuple(sorted(self.moat + ((free, ()),))))
        sending = ((("snd", 0, ()),), ((), ()))
        self.told(True, tuple(sorted(self.moat + ((sending, (((), ()),)),))))
        self.told(False, tuple(sorted(self.moat + ((sending, words_held(BITS, sending, MIXED)),))))

    def test_an_entry_that_is_none_though_nothing_leads_to_it(self):
        hands = (("rcv", 5, ()), ("snd", 4, ()))
        free = (hands, ((), ()))
        needed = words_held(BITS, free, MIXED)
        self.told(True, tuple(sorted(self.moat + ((free, needed),))))
        for words in (((("z", 0),), ()), ((("x", 1),), ()), ((), (X,)), ((("a", 0),), ()), ((Y, Y), (), ()), ((Y, Y),),
                      ()):
            self.told(False, tuple(sorted(self.moat + ((free, tuple(sorted(needed + (words,)))),))))
        for loads in (((X,), ()), ((), (("a", 0),)), ((X, Y), ())):
            self.told(False, tuple(sorted(self.moat + (((hands, loads), needed),))))
            self.told(False, tuple(sorted(self.moat + ((free, needed), ((hands, loads), needed)))))
        self.told(False, tuple(sorted(self.moat + (((hands * 4, ((), ())), needed),))))

    def test_a_way_out_is_barred_where_its_letter_is_in_the_moat(self):
        program = with_steps(("wait", 0, ("a", None, 1), ("b", None, 0)), ("stop",), ("send", 0, "a", 0),
                             ("send", 0, "b", 0), roads=(WIDE,), many=0)
        start = start_world(program)
        never = ("at", "main", 4, 1)
        self.assertIs(moat_stands(program, never, ((start, (((A,),),)),)), True)
        self.assertIs(moat_stands(program, never, ((start, ()),)), False)
        self.assertIs(moat_stands(program, never, ((start, (((B,),),)),)), False)
        self.assertIs(moat_stands(program, never, ((start, (((A, A),),)),)), False)

    def test_without_wide_roads(self):
        never = ("at", "asker", 2, 1)
        moat = tuple((world, ()) for world in sorted(all_worlds(TALK, 300)))
        self.assertIs(moat_stands(TALK, never, moat), True)
        self.assertIs(moat_stands(TALK, ("at", "asker", 3, 1), moat), False)
        for place in range(len(moat)):
            self.assertIs(moat_stands(TALK, never, moat[:place] + moat[place + 1:]), False)
            self.assertIs(moat_stands(TALK, never, moat[:place] + ((moat[place][0], ((),)),) + moat[place + 1:]), False)

    def test_refused(self):
        for claim in (None, (), ("at", "nobody", 0, 1), ("on", 2, "x", 1), ("not", ("on", 0, "x", 1)),
                      ("not", ("not", ("on", 0, "x", 1)))):
            for moat in (self.moat, ()):
                with self.subTest(claim), self.assertRaises(NoClaim):
                    moat_stands(BITS, claim, moat)

    def spoilt(self, rng, program, moat):
        place = rng.randrange(len(moat))
        floor, rows = moat[place]
        some = all_words(program, 2)
        changed = rng.choice([
            [],
            [(floor, ())],
            [(floor, tuple(words for words in rows if rng.random() < 0.6))],
            [(floor, leasts(rows + (rng.choice(some),)))],
            [(floor, leasts((rng.choice(some),)))],
            [(floor, leasts(tuple(words for words in rows[1:]) + tuple(rng.sample(some, min(2, len(some))))))],
        ])
        return moat[:place] + tuple(changed) + moat[place + 1:]

    def test_spoilt_ones_as_the_words_say(self):
        rng = random.Random(43)
        seen = {True: 0, False: 0}
        for program, claim, (word, told) in random_talks(44, 150):
            if word == "run":
                told = tuple((floor, ()) for floor in floors(program, 60))
            for k in range(4):
                moat = self.spoilt(rng, program, told)
                for again in range(rng.randint(0, 2)):
                    moat = self.spoilt(rng, program, moat) if moat else moat
                wanted = stands_as_its_words_say(program, claim, moat)
                if wanted is not None:
                    seen[wanted] += 1
                    self.assertIs(moat_stands(program, claim, moat), wanted)
        self.assertGreater(min(seen.values()), 40)


class PlainAnswers(unittest.TestCase):

    def test_plain_data_told_again_the_same_and_nothing_changed(self):
        floor = start_world(BITS)
        moat = moat_told(BITS, MIXED, 300)[1]
        before = copy.deepcopy((BITS, MIXED, floor, moat))
        for asked in (
            lambda: in_moat(BITS, moat, floor),
            lambda: words_held(BITS, floor, MIXED),
            lambda: moat_told(BITS, MIXED, 300),
            lambda: moat_told(BITS, claim_of("at(rcv 3 1)"), 300),
            lambda: moat_stands(BITS, MIXED, moat),
        ):
            told = asked()
            self.assertTrue(tuples_all_down(told))
            self.assertEqual(told, asked())
            self.assertEqual((BITS, MIXED, floor, moat), before)


if __name__ == "__main__":
    unittest.main()
