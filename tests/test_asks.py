"""[14.1], [14.2]: asks and their answers, and reports of programs."""

import copy
import random
import unittest

from lettermoat.asks import answer, report
from lettermoat.books import halt_told, never_told
from lettermoat.claims import claim_of, claim_text, is_claim
from lettermoat.errors import LetterError, NoText
from lettermoat.folding import folded_told
from lettermoat.graphs import all_worlds
from lettermoat.leads import leads_told
from lettermoat.loops import lasso_stands
from lettermoat.moats import moat_told
from lettermoat.runs import end_of, run_of, run_text
from lettermoat.texts import program_of, program_text
from lettermoat.thinning import thinned_told
from lettermoat.worlds import start_world

from tests.samples import ASKER_TEXT, BITS, TALK, asker, random_claim, small_programs, with_steps

TALK_TEXT = program_text(TALK)

# Four hands that count by themselves: more than 600 worlds, but few when folded or thinned.
MANY = ((), (("main", 1, (("add", 0, 1), ("add", 0, 1), ("add", 0, 1), ("add", 0, 2), ("add", 0, 1))),), ("main",) * 4)

# So many that even the folded ones are more than 600.
MORE = ((), (("main", 2, tuple(("add", k % 2, 1) for k in range(11)) + (("pick", 0, 1),)),), ("main",) * 4)

# Of just 601 worlds, and of just 301.
ONE_MORE = ((("row", 1, True),), (("q", 2, (("begin", "q"), ("tell", 0, "b", 0), ("pick", 0, 1, 2))),), ("q", "q"))
ONE_MORE_FLOOR = ((), (("p", 0, (("begin", "p"), ("pick", 0, 1, 2))),), ("p", "p"))


def chains(*counts):
    """Hands that go so many steps each."""
    roles = tuple((name, 0, tuple(("pick", k + 1) for k in range(count))) for name, count in zip("abcd", counts))
    return ((), roles, tuple(role[0] for role in roles))


NO_ASKS = (
    "", " ", "halt ", " halt", "Halt", "halt halt", "halt any", "halt at(asker 0 1)", "never", "never ", "never any",
    "never  at(asker 0 1)", "never at(asker 0 1) ", " never at(asker 0 1)", "never at(asker 0 1) at(asker 0 1)",
    "never at(asker 0 1)\n", "never at(asker 0)", "never at(asker 00 1)", "never at(asker 13 1)", "never on(4 ask 1)",
    "never not(not(not(not(at(asker 0 1)))))", "folded", "folded any", "thinned", "thinned any", "moat", "moat any",
    "always at(asker 0 1)", "at(asker 0 1)", "leads", "leads at(asker 0 1)", "leads at(asker 0 1) to",
    "leads at(asker 0 1) to ", "leads at(asker 0 1) to any", "leads any to any", "leads any at(asker 0 1)",
    "leads at(asker 0 1) at(asker 1 1)", "leads at(asker 0 1)  to at(asker 1 1)", "leads to at(asker 0 1)",
    "leads at(asker 0 1) to at(asker 1 1) to at(asker 2 1)", "leads at(asker 0 1) TO at(asker 1 1)",
    "leads ANY to at(asker 0 1)", "leads at(asker 0 1)to at(asker 1 1)", "leads at(asker 0 1)) to at(asker 1 1)",
    "leads (at(asker 0 1) to at(asker 1 1))", "follows any to at(asker 0 1)",
    "never any to at(asker 0 1)", "halt\nhalt", "halt\n", "run -", "never(at(asker 0 1))",
)


class Answers(unittest.TestCase):

    def test_never(self):
        self.assertEqual(answer(TALK, "never at(asker 2 1)"), "book 15")
        self.assertEqual(answer(TALK, "never at(asker 3 1)"), "run 0.0 1.1 1.0 1.0 0.4")
        self.assertEqual(answer(TALK, "never at(asker 0 1)"), "run -")

    def test_halt(self):
        self.assertEqual(answer(TALK, "halt"), "run " + run_text(halt_told(TALK, 600)[1]))
        program = with_steps(("set", 0, 1), ("stop",))
        self.assertEqual(answer(program, "halt"), "book 2")
        loses = with_steps(("send", 0, "a", 0), ("wait", 0, ("b", None, 0)), roads=(("row", 1, True),))
        self.assertEqual(answer(loses, "halt"), "run 0.0 !0.0")
        self.assertEqual(answer(with_steps(("wait", 0, ("a", None, 0))), "halt"), "run -")

    def test_folded_and_thinned(self):
        self.assertEqual(answer(TALK, "folded at(asker 2 1)"), "book 15")
        self.assertEqual(answer(TALK, "thinned on(0 ask 2)"),
                         "book " + str(len(thinned_told(TALK, claim_of("on(0 ask 2)"), 600)[1])))
        for word in ("folded", "thinned"):
            line = answer(TALK, f"{word} at(asker 3 1)")
            self.assertTrue(line.startswith("run "))
            end = end_of(TALK, start_world(TALK), run_of(line[4:]))
            self.assertEqual(end[0][0][1], 3)
            self.assertEqual(answer(TALK, f"{word} at(asker 0 1)"), "run -")

    def test_moat(self):
        told = moat_told(BITS, ("at", "rcv", 5, 1), 300)
        self.assertEqual(answer(BITS, "moat at(rcv 5 1)"), "moat " + str(len(told[1])))
        line = answer(BITS, "moat at(rcv 1 1)")
        self.assertTrue(line.startswith("run "))
        self.assertEqual(end_of(BITS, start_world(BITS), run_of(line[4:]))[0][1][1], 1)
        self.assertEqual(answer(TALK, "moat at(asker 2 1)"), "moat 15")

    def test_leads(self):
        told = leads_told(TALK, ("at", "helper", 1, 1), ("or", ("at", "helper", 2, 1), ("at", "helper", 4, 1)), 600)
        self.assertEqual((told[0], len(told[1])), ("book", 15))
        self.assertEqual(len(told[2]), 1)
        self.assertEqual(answer(TALK, "leads at(helper 1 1) to or(at(helper 2 1) at(helper 4 1))"), "book 1")
        self.assertEqual(answer(TALK, "leads at(asker 3 1) to at(asker 3 1)"), "book 0")

    def test_lassos(self):
        for first, p in (("any", None), ("at(asker 0 1)", ("at", "asker", 0, 1))):
            line = answer(TALK, f"leads {first} to at(asker 3 1)")
            word, stem, then, loop = line.replace(" then ", "|then|").replace("lasso ", "lasso|").split("|")
            self.assertEqual((word, then), ("lasso", "then"))
            self.assertIs(lasso_stands(TALK, p, ("at", "asker", 3, 1), run_of(stem), run_of(loop)), True)
        waits = with_steps(("wait", 0, ("a", None, 1)))
        self.assertEqual(answer(waits, "leads any to at(main 1 1)"), "lasso - then -")
        rounds = with_steps(("pick", 0), many=0)
        self.assertEqual(answer(rounds, "leads any to at(main 1 1)"), "lasso - then 0.0")
        later = with_steps(("pick", 1), ("pick", 1), many=0)
        self.assertEqual(answer(later, "leads any to at(main 2 1)"), "lasso 0.0 then 0.0")
        ended = with_steps(("pick", 1), ("stop",), many=0)
        self.assertEqual(answer(ended, "leads any to at(main 2 1)"), "lasso 0.0 then -")

    def test_kinds_and_roles_that_look_like_words_of_asks(self):
        program = program_of("""road row 1
role to 0
send 0 to 0
wait 0 to:.:0
role any 0
stop
hand to
hand any""")
        self.assertEqual(answer(program, "leads on(0 to 1) to at(to 0 1)"), "book 1")
        self.assertEqual(answer(program, "leads any to on(0 to 1)"), "book 1")
        self.assertEqual(answer(program, "never and(on(0 to 1) at(to 0 1))"), "book 2")
        self.assertEqual(answer(program, "leads at(any 0 1) to and(on(0 to 1) at(any 0 1))"), "book 1")

    def test_refused(self):
        for word in ("never", "folded", "thinned", "moat"):
            for claim in ("at(nobody 0 1)", "at(asker 4 1)", "has(asker 1 0 1)", "on(2 ask 1)",
                          "and(at(asker 0 1) on(3 a 1))"):
                self.assertEqual(answer(TALK, f"{word} {claim}"), "refused NoClaim")
        self.assertEqual(answer(TALK, "leads at(nobody 0 1) to at(asker 0 1)"), "refused NoClaim")
        self.assertEqual(answer(TALK, "leads at(asker 0 1) to at(nobody 0 1)"), "refused NoClaim")
        self.assertEqual(answer(TALK, "leads any to at(nobody 0 1)"), "refused NoClaim")
        self.assertEqual(answer(BITS, "moat not(on(0 x 1))"), "refused NoClaim")
        for line in ("halt", "never at(rcv 1 1)", "folded at(rcv 1 1)", "thinned at(rcv 1 1)",
                     "leads any to at(rcv 1 1)"):
            self.assertEqual(answer(BITS, line), "refused NoWorlds")
        for line in ("never at(rcv 9 1)", "folded at(rcv 9 1)", "thinned at(rcv 9 1)", "leads any to at(rcv 9 1)"):
            self.assertEqual(answer(BITS, line), "refused NoClaim")

    def test_too_many(self):
        self.assertEqual(answer(MANY, "halt"), "refused TooMany")
        self.assertEqual(answer(MANY, "never at(main 5 4)"), "refused TooMany")
        self.assertEqual(answer(MANY, "leads any to at(main 5 4)"), "refused TooMany")
        self.assertEqual(answer(MANY, "moat at(main 5 4)"), "refused TooMany")
        self.assertTrue(answer(MANY, "folded at(main 5 4)").startswith("run "))
        self.assertEqual(answer(MANY, "thinned has(main 0 0 5)"), "refused TooMany")
        self.assertEqual(answer(MANY, "thinned at(main 5 5)"), "book 32")
        for word in ("never", "folded", "moat"):
            self.assertEqual(answer(MORE, f"{word} at(main 12 1)"), "refused TooMany")

    def test_most_600_and_of_moats_300(self):
        just = chains(11, 4, 9)
        self.assertEqual((len(all_worlds(just, 999)), len(all_worlds(ONE_MORE, 999))), (600, 601))
        for ask, told in (("halt", "book 600"), ("never at({} 0 6)", "book 600"), ("folded at({} 0 6)", "book 600"),
                          ("leads at({} 0 6) to at({} 0 1)", "book 0")):
            self.assertEqual(answer(just, ask.format("a", "a")), told)
            if ask[:6] != "folded":
                self.assertEqual(answer(ONE_MORE, ask.format("q", "q")), "refused TooMany")
        floor = chains(11, 4, 4)
        self.assertEqual((len(all_worlds(floor, 999)), len(all_worlds(ONE_MORE_FLOOR, 999))), (300, 301))
        self.assertEqual(answer(floor, "moat at(a 0 6)"), "moat 300")
        self.assertEqual(answer(ONE_MORE_FLOOR, "moat at(p 0 6)"), "refused TooMany")
        self.assertEqual(answer(ONE_MORE_FLOOR, "never and(at(p 0 1) at(p 0 1) not(at(p 0 1)))"), "book 301")

    def test_no_asks(self):
        for line in NO_ASKS:
            with self.subTest(line), self.assertRaises(NoText):
                answer(TALK, line)

    def test_random_programs(self):
        rng = random.Random(151)
        tellers = {"never": never_told, "folded": folded_told, "thinned": thinned_told}
        words = {}
        for program, worlds in small_programs(152, 60, 60):
            claims = [random_claim(rng, program) for k in range(2)]
            if not all(is_claim(program, claim) for claim in claims):
                continue
            p, q = claims
            asked = [(f"{word} {claim_text(p)}", tell(program, p, 600)) for word, tell in tellers.items()]
            asked.append(("halt", halt_told(program, 600)))
            asked.append((f"leads {claim_text(p)} to {claim_text(q)}", leads_told(program, p, q, 600)))
            asked.append((f"leads any to {claim_text(q)}", leads_told(program, None, q, 600)))
            for line, told in asked:
                wanted = {
                    "run": lambda: "run " + run_text(told[1]),
                    "lasso": lambda: f"lasso {run_text(told[1])} then {run_text(told[2])}",
                    "book": lambda: f"book {len(told[-1])}",
                }[told[0]]()
                self.assertEqual(answer(program, line), wanted)
                words[told[0]] = words.get(told[0], 0) + 1
        self.assertGreater(min(words.values()), 10)
        self.assertEqual(sorted(words), ["book", "lasso", "run"])


class Reports(unittest.TestCase):

    def test_without_asks(self):
        self.assertEqual(report(TALK_TEXT, ()), """roads 2
wide 0
role asker steps 3 hands 1
role helper steps 5 hands 1
worlds 15""")

    def test_wide(self):
        self.assertEqual(report(ASKER_TEXT, ()), """roads 3
wide 1
role asker steps 9 hands 2
role helper steps 2 hands 1
worlds many""")

    def test_no_roads_and_no_hands_of_a_role(self):
        text = "role main 0\nstop\nrole other 2\nset 0 1\nstop\nhand main\nhand main"
        self.assertEqual(report(text, ()), """roads 0
wide 0
role main steps 1 hands 2
role other steps 2 hands 0
worlds 1""")

    def test_many_worlds(self):
        self.assertTrue(report(program_text(MANY), ()).endswith("\nworlds many"))
        self.assertTrue(report(program_text(ONE_MORE_FLOOR), ()).endswith("\nworlds 301"))

    def test_just_600_worlds(self):
        for program, line in ((chains(11, 4, 9), "worlds 600"), (ONE_MORE, "worlds many")):
            self.assertEqual(report(program_text(program), ()).split("\n")[-1], line)

    def test_asks_in_order(self):
        asks = ("never at(asker 2 1)", "halt", "never at(asker 2 1)", "moat at(nobody 0 1)",
                "leads any to at(asker 0 1)")
        lines = report(TALK_TEXT, asks).split("\n")
        self.assertEqual(len(lines), 15)
        self.assertEqual(tuple(lines[5::2]), asks)
        self.assertEqual(lines[6::2], [answer(TALK, ask) for ask in asks])
        self.assertEqual(lines[6], "book 15")
        self.assertEqual(lines[12], "refused NoClaim")

    def test_refused(self):
        for text in ("", "hand main", TALK_TEXT + "\n", TALK_TEXT + "\nhand nobody", "roads 2"):
            for asks in ((), ("halt",), ("nothing",)):
                with self.subTest(text), self.assertRaises(NoText):
                    report(text, asks)
        for line in NO_ASKS:
            for asks in ((line,), ("halt", line), (line, "halt")):
                with self.subTest(line), self.assertRaises(NoText):
                    report(TALK_TEXT, asks)

    def test_refused_of_an_ask_that_comes_late_and_of_no_claim(self):
        with self.assertRaises(NoText):
            report(TALK_TEXT, ("never at(nobody 0 1)", "never at(nobody 0 0)"))
        self.assertTrue(report(TALK_TEXT, ("never at(nobody 0 1)",)).endswith("\nrefused NoClaim"))

    def test_only_letter_errors(self):
        for line in NO_ASKS:
            try:
                answer(BITS, line)
            except LetterError as error:
                self.assertIsInstance(error, NoText)


class PlainAnswers(unittest.TestCase):

    def test_told_again_the_same_and_nothing_changed(self):
        asks = ("halt", "never at(asker 3 1)", "leads any to at(asker 3 1)")
        program = asker()
        handed = (TALK, BITS, program, TALK_TEXT, asks)
        before = copy.deepcopy(handed)
        for asked in (
            lambda: answer(TALK, "leads any to at(asker 3 1)"),
            lambda: answer(BITS, "moat at(rcv 5 1)"),
            lambda: answer(program, "halt"),
            lambda: report(TALK_TEXT, asks),
        ):
            self.assertIsInstance(asked(), str)
            self.assertEqual(asked(), asked())
            self.assertEqual(handed, before)


if __name__ == "__main__":
    unittest.main()
