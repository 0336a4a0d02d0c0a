"""[0.1] to [0.3], and the interface: what holds over the whole program."""

import importlib
import inspect
import random
import unittest

from lettermoat.asks import answer
from lettermoat.books import book_stands, halt_book_stands, halt_told, never_told
from lettermoat.claims import claim_text, grows, holds, is_claim
from lettermoat.errors import LetterError, NoClaim
from lettermoat.folding import folded_book_stands, folded_told
from lettermoat.leads import leads_book_stands, leads_told, open_worlds
from lettermoat.loops import lasso_stands
from lettermoat.moats import moat_stands, moat_told, words_held
from lettermoat.papers import is_thinned, led_by, paper_for
from lettermoat.runs import worlds_of
from lettermoat.thinning import sees, thinned_book_stands, thinned_moves, thinned_told
from lettermoat.worlds import start_world

from tests.samples import NEVER, TALK, odd_values, random_claim, random_growing_claim, random_talk, small_programs

INTERFACE = {
    "programs": "is_program(value) role_of(program, name) is_wide(program) sent_on(program, road)",
    "texts": "program_text(program) program_of(text) step_text(step) step_of(line)",
    "roads": "put_on(road, letters, letter) places_taken(road, letters) places_lost(road, letters) "
             "without(letters, place) within(some, others) all_within(some, others) leasts(rows)",
    "worlds": "is_world(program, value) start_world(program) stopped(program, hand) step_at(program, hand) "
              "choices(program, world, k) moves(program, world) moved(program, world, move) "
              "apart(program, world, one, other)",
    "runs": "worlds_of(program, run) end_of(program, world, run) run_text(run) run_of(text) story(program, run) "
            "shown(program, run, roads)",
    "claims": "is_claim(program, value) holds(program, world, claim) grows(claim) claim_text(claim) claim_of(text)",
    "graphs": "all_worlds(program, most) way_to(program, world, most) ahead(program, world)",
    "books": "never_told(program, claim, most) halt_told(program, most) book_stands(program, claim, worlds) "
             "halt_book_stands(program, worlds)",
    "floors": "floor_of(program, world) words_of(program, world) floors(program, most) floor_moves(program, floor) "
              "before(program, floor, move, words)",
    "moats": "in_moat(program, moat, world) words_held(program, floor, claim) moat_told(program, claim, most) "
             "moat_stands(program, claim, moat)",
    "loops": "can_move(program, world, k) rests(program, world) is_fair(program, world, loop) "
             "lasso_stands(program, p, q, stem, loop)",
    "knots": "knots_of(program, worlds) is_bare(program, knot) helper_of(program, knot) fair_loop(program, knot)",
    "leads": "open_worlds(program, p, q, most) leads_told(program, p, q, most) "
             "leads_book_stands(program, p, q, worlds, entries)",
    "folding": "folded(world) fold_run(program, run) lifted(program, moves) folded_told(program, claim, most) "
               "folded_book_stands(program, claim, worlds)",
    "thinning": "is_own(step) is_rising(program, role, s) sees(program, claim, role, s) "
                "thinned_moves(program, claim, world) thinned_told(program, claim, most) "
                "thinned_book_stands(program, claim, worlds)",
    "papers": "is_thinned(program, claim, run) paper_for(program, claim, run) led_by(program, claim, run, paper)",
    "likeness": "outside(program, world, move, roads) worlds_behind(program, worlds, roads, letter) "
                "can_show(program, roads, letters) within_told(one, other, roads, most) "
                "within_book_stands(one, other, roads, pairs)",
    "asks": "answer(program, line) report(text, asks)",
}

DESK = "go(self, line) back(self) moves_line(self) story_text(self) run_line(self) holds_now(self, claims) " \
       "asked(self, line)"


def signatures(row):
    return [part.strip() + ")" for part in row.split(")") if part]


class Interface(unittest.TestCase):

    def test_functions(self):
        for name, row in INTERFACE.items():
            module = importlib.import_module("lettermoat." + name)
            for wanted in signatures(row):
                function = getattr(module, wanted.partition("(")[0])
                self.assertEqual(function.__module__, module.__name__)
                self.assertEqual(function.__name__ + str(inspect.signature(function)), wanted)

    def test_desk(self):
        desk = importlib.import_module("lettermoat.desk").Desk
        self.assertEqual(str(inspect.signature(desk)), "(text)")
        for wanted in signatures(DESK):
            method = getattr(desk, wanted.partition("(")[0])
            self.assertEqual(method.__name__ + str(inspect.signature(method)), wanted)

    def test_errors(self):
        errors = importlib.import_module("lettermoat.errors")
        found = {name for name, value in vars(errors).items() if inspect.isclass(value)}
        self.assertEqual(found, {
            "LetterError", "NoText", "NoProgram", "NoMove", "NoClaim", "NoWorlds", "TooMany", "NoWitness",
        })


class NoClaims(unittest.TestCase):

    def test_whatever_is_no_claim_is_refused(self):
        start = start_world(TALK)
        for number, odd in enumerate(odd_values()):
            for place, asked in enumerate((
                lambda: holds(TALK, start, odd),
                lambda: never_told(TALK, odd, 600),
                lambda: book_stands(TALK, odd, (start,)),
                lambda: moat_told(TALK, odd, 300),
                lambda: moat_stands(TALK, odd, ()),
                lambda: words_held(TALK, start, odd),
                lambda: lasso_stands(TALK, None, odd, (), ()),
                lambda: open_worlds(TALK, NEVER, odd, 600),
                lambda: leads_told(TALK, NEVER, odd, 600),
                lambda: leads_book_stands(TALK, NEVER, odd, (), ()),
            )):
                with self.subTest((number, place)), self.assertRaises(NoClaim):
                    asked()

    def test_where_none_may_stand_in_its_place(self):
        start = start_world(TALK)
        for number, odd in enumerate(odd_values()[1:]):
            for place, asked in enumerate((
                lambda: lasso_stands(TALK, odd, NEVER, (), ()),
                lambda: open_worlds(TALK, odd, NEVER, 600),
                lambda: leads_told(TALK, odd, NEVER, 600),
                lambda: leads_book_stands(TALK, odd, NEVER, (), ()),
                lambda: folded_told(TALK, odd, 600),
                lambda: folded_book_stands(TALK, odd, (start,)),
                lambda: sees(TALK, odd, "helper", 1),
                lambda: thinned_moves(TALK, odd, start),
                lambda: thinned_told(TALK, odd, 600),
                lambda: thinned_book_stands(TALK, odd, (start,)),
                lambda: is_thinned(TALK, odd, ()),
                lambda: paper_for(TALK, odd, ()),
                lambda: led_by(TALK, odd, (), ()),
            )):
                with self.subTest((number, place)), self.assertRaises(NoClaim):
                    asked()


class Witnesses(unittest.TestCase):

    def breaks(self, program, claim, run):
        return holds(program, worlds_of(program, run)[-1], claim)

    def test_a_run_or_a_book_or_a_moat_and_never_both(self):
        rng = random.Random(171)
        seen = {"run": 0, "book": 0}
        for program, worlds in small_programs(172, 120, 60):
            claim = random_claim(rng, program, 2)
            if not is_claim(program, claim):
                continue
            told = {
                "never": never_told(program, claim, 600),
                "folded": folded_told(program, claim, 600),
                "thinned": thinned_told(program, claim, 600),
            }
            judges = {"never": book_stands, "folded": folded_book_stands, "thinned": thinned_book_stands}
            if grows(claim):
                told["moat"] = moat_told(program, claim, 300)
                judges["moat"] = moat_stands
            self.assertEqual(len({word == "run" for word, witness in told.values()}), 1)
            for sort, (word, witness) in told.items():
                line = answer(program, f"{sort} {claim_text(claim)}")
                self.assertEqual(line.split(" ")[0], word)
                if word == "run":
                    self.assertTrue(self.breaks(program, claim, witness))
                    self.assertIs(judges["never"](program, claim, tuple(sorted(worlds))), False)
                else:
                    self.assertIs(judges[sort](program, claim, witness), True)
            seen[told["never"][0]] += 1
        self.assertGreater(min(seen.values()), 20)

    def test_moats_on_wide_roads(self):
        rng = random.Random(173)
        seen = {"run": 0, "moat": 0}
        for k in range(150):
            program = random_talk(rng, 1)
            claim = random_growing_claim(rng, program)
            try:
                word, witness = moat_told(program, claim, 60)
            except LetterError:
                continue
            seen[word] += 1
            if word == "run":
                self.assertTrue(self.breaks(program, claim, witness))
            else:
                self.assertIs(moat_stands(program, claim, witness), True)
        self.assertGreater(min(seen.values()), 20)

    def test_halts(self):
        seen = {"run": 0, "book": 0}
        for program, worlds in small_programs(174, 120, 60):
            word, witness = halt_told(program, 600)
            self.assertEqual(answer(program, "halt").split(" ")[0], word)
            self.assertEqual(folded_told(program, None, 600)[0], word)
            self.assertEqual(thinned_told(program, None, 600)[0], word)
            self.assertIs(halt_book_stands(program, tuple(sorted(worlds))), word == "book")
            if word == "run":
                led = led_by(program, None, witness, paper_for(program, None, witness))
                self.assertIs(is_thinned(program, None, led), True)
            seen[word] += 1
        self.assertGreater(min(seen.values()), 10)


if __name__ == "__main__":
    unittest.main()
