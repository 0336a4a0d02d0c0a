"""[5.1], [5.2]: runs, their worlds, their texts, their stories, and the letters that they show."""

import copy
import random
import unittest

from lettermoat.errors import NoMove, NoText
from lettermoat.runs import end_of, run_of, run_text, shown, story, worlds_of
from lettermoat.texts import program_of
from lettermoat.worlds import moved, start_world

from tests.samples import TALK, asker, random_program, random_run, tuples_all_down, with_steps

# The asker asks, the helper answers with no, the asker asks again, and the second answer is lost.
RUN = (
    ("hand", 0, 0), ("hand", 1, 1), ("hand", 1, 1), ("hand", 1, 0), ("hand", 0, 2), ("hand", 0, 0),
)
LOST = (("hand", 0, 0), ("hand", 1, 1), ("hand", 1, 0), ("hand", 1, 0), ("lose", 1, 0), ("hand", 1, 0))

ALL_WORDS = program_of("""road row 2 loses
road heap 3
role main 2
set 0 2
add 1 1
if 0 2 3
pick 4 8
send 1 ask 2
tell 0 note 0
begin other
stop
role other 1
wait 1 ask:0:1
wait 0 note:.:2
hand main""")


class Worlds(unittest.TestCase):

    def test_empty_run(self):
        self.assertEqual(worlds_of(TALK, ()), (start_world(TALK),))

    def test_world_by_world(self):
        self.assertEqual(worlds_of(TALK, RUN[:4]), (
            ((("asker", 0, (0,)), ("helper", 0, (0,))), ((), ())),
            ((("asker", 1, (0,)), ("helper", 0, (0,))), ((("ask", 1),), ())),
            ((("asker", 1, (0,)), ("helper", 1, (1,))), ((), ())),
            ((("asker", 1, (0,)), ("helper", 4, (1,))), ((), ())),
            ((("asker", 1, (0,)), ("helper", 5, (1,))), ((), (("no", 2),))),
        ))

    def test_refused_at_any_place(self):
        for place in range(len(RUN) + 1):
            for bad in (("hand", 2, 0), ("hand", -1, 0), ("lose", 0, 0), ("hand", 0, 7)):
                with self.subTest(place), self.assertRaises(NoMove):
                    worlds_of(TALK, RUN[:place] + (bad,) + RUN[place:])

    def test_end_of(self):
        self.assertEqual(end_of(TALK, start_world(TALK), ()), start_world(TALK))
        self.assertEqual(end_of(TALK, start_world(TALK), RUN), worlds_of(TALK, RUN)[-1])
        told = ((("asker", 1, (0,)), ("helper", 5, (2,))), ((), (("no", 0), ("yes", 2))))
        self.assertEqual(end_of(TALK, told, ()), told)
        self.assertEqual(end_of(TALK, told, (("lose", 1, 0), ("hand", 0, 5))),
                         ((("asker", 3, (2,)), ("helper", 5, (2,))), ((), ())))

    def test_end_of_refused(self):
        told = ((("asker", 1, (0,)), ("helper", 5, (2,))), ((), (("no", 0), ("yes", 2))))
        for run in ((("hand", 1, 0),), (("lose", 1, 0), ("lose", 1, 1)), (("hand", 0, 5), ("hand", 0, 0))):
            with self.assertRaises(NoMove):
                end_of(TALK, told, run)

    def test_along_random_runs(self):
        rng = random.Random(5)
        for seed in range(80):
            program = random_program(rng, wide=seed % 3 == 0)
            run = random_run(rng, program, 15)
            worlds = worlds_of(program, run)
            self.assertEqual(len(worlds), len(run) + 1)
            self.assertEqual(worlds[0], start_world(program))
            for place, move in enumerate(run):
                self.assertEqual(moved(program, worlds[place], move), worlds[place + 1])
                self.assertEqual(end_of(program, worlds[place], run[place:]), worlds[-1])


class Texts(unittest.TestCase):

    def test_there_and_back(self):
        for run, text in (
            ((), "-"),
            ((("hand", 0, 0),), "0.0"),
            ((("lose", 0, 0),), "!0.0"),
            (LOST, "0.0 1.1 1.0 1.0 !1.0 1.0"),
            ((("hand", 5, 8), ("lose", 3, 12), ("hand", 10, 999999999)), "5.8 !3.12 10.999999999"),
            ((("lose", 999999999, 0),), "!999999999.0"),
        ):
            with self.subTest(text):
                self.assertEqual(run_text(run), text)
                self.assertEqual(run_of(text), run)

    def test_no_runs(self):
        for text in (
            "", " ", "--", "- ", " -", "- -", "- 0.0", "0.0 -", "0", "0.", ".0", ".", "0.0.0", "0,0", "0.0  0.0",
            " 0.0", "0.0 ", "0.0\n", "\n0.0", "0.0\n0.0", "!", "!0", "!.", "!0.", "!.0", "!!0.0", "! 0.0", "0!0",
            "0.!0",
            "0.0!", "00.0", "0.00", "01.0", "0.01", "!01.0", "!0.01", "-1.0", "0.-1", "+1.0", "0.+1", "a.0", "0.a",
            "1234567890.0", "0.1234567890", "!1234567890.0", "1_0.0", "0. 0", "0 .0", "1e1.0", "!0.0.0", "0x1.0", "\n",
        ):
            with self.subTest(text), self.assertRaises(NoText):
                run_of(text)

    def test_long_texts(self):
        text = " ".join(["0.0"] * 5000)
        self.assertEqual(run_of(text), (("hand", 0, 0),) * 5000)
        self.assertEqual(run_text(run_of(text)), text)
        with self.assertRaises(NoText):
            run_of("1" * 20000)

    def test_just_what_is_so_written_is_read(self):
        rng = random.Random(3)
        read = 0
        for count in range(20000):
            text = "".join(rng.choice("0019.. !-") for k in range(rng.randint(0, 8)))
            try:
                run = run_of(text)
            except NoText:
                continue
            read += 1
            self.assertEqual(run_text(run), text)
        self.assertGreater(read, 50)


class Stories(unittest.TestCase):

    def test_ordinary(self):
        self.assertEqual(story(TALK, LOST), "\n".join([
            "0 asker 0 sends ask 1 on 0",
            "1 helper 1 takes ask 1 from 0",
            "2 helper 1 pick",
            "3 helper 1 sends yes 1 on 1",
            "4 road 1 loses yes 1",
            "5 helper 1 if",
        ]))

    def test_empty(self):
        self.assertEqual(story(TALK, ()), "")

    def test_every_word(self):
        run = run_of("0.0 0.0 0.0 0.0 0.0 0.0 0.0 1.2 !0.0")
        self.assertEqual(story(ALL_WORDS, run), "\n".join([
            "0 main 0 set",
            "1 main 0 add",
            "2 main 0 if",
            "3 main 0 pick",
            "4 main 0 sends ask 2 on 1",
            "5 main 0 sends note 2 on 0",
            "6 main 0 begins other",
            "7 other 1 takes ask 2 from 1",
            "8 road 0 loses note 2",
        ]))
        other = run_of("0.0 0.0 0.0 0.0 0.0 0.0 0.0 1.2 1.2")
        self.assertEqual(story(ALL_WORDS, other).split("\n")[-1], "8 other 1 takes note 2 from 0")

    def test_the_letter_lost_or_taken_is_that_of_the_place(self):
        program = with_steps(("send", 0, "a", 1), ("send", 0, "b", 2), ("wait", 0, ("a", 0, 3), ("b", 0, 3)),
                             roads=(("heap", 3, True),))
        self.assertEqual(story(program, run_of("0.0 0.0 !0.1 0.1")).split("\n")[2:],
                         ["2 road 0 loses b 2", "3 main 0 takes a 1 from 0"])
        self.assertEqual(story(program, run_of("0.0 0.0 0.5 !0.0")).split("\n")[2:],
                         ["2 main 0 takes b 2 from 0", "3 road 0 loses a 1"])

    def test_many_moves(self):
        program = with_steps(("pick", 0))
        self.assertEqual(story(program, (("hand", 0, 0),) * 12).split("\n")[-1], "11 main 0 pick")

    def test_refused(self):
        for run in ((("hand", 1, 0),), LOST + (("lose", 0, 0),)):
            with self.assertRaises(NoMove):
                story(TALK, run)


class Shown(unittest.TestCase):

    def test_sent_letters_alone_in_order(self):
        self.assertEqual(shown(TALK, RUN, (0, 1)), ((0, "ask", 1), (1, "no", 2), (0, "ask", 1)))
        self.assertEqual(shown(TALK, RUN, (0,)), ((0, "ask", 1), (0, "ask", 1)))
        self.assertEqual(shown(TALK, RUN, (1,)), ((1, "no", 2),))
        self.assertEqual(shown(TALK, RUN, ()), ())
        self.assertEqual(shown(TALK, (), (0, 1)), ())

    def test_a_letter_lost_was_sent(self):
        self.assertEqual(shown(TALK, LOST, (0, 1)), ((0, "ask", 1), (1, "yes", 1)))

    def test_a_lose_shows_nothing_wherever_hands_stand(self):
        program = with_steps(("send", 0, "a", 0), ("send", 0, "a", 1), roads=(("row", 3, True), ("row", 3, True)))
        self.assertEqual(shown(program, run_of("0.0 !0.0 0.0"), (0,)), ((0, "a", 0), (0, "a", 1)))
        other = with_steps(("send", 1, "a", 0), roads=(("row", 3, True), ("row", 3, True)))
        self.assertEqual(shown(other, run_of("0.0 !1.0"), (0, 1)), ((1, "a", 0),))

    def test_tell_shows_what_is_held(self):
        run = run_of("0.0 0.0 0.0 0.0 0.0 0.0 0.0 1.2 1.2")
        self.assertEqual(shown(ALL_WORDS, run, (0, 1)), ((1, "ask", 2), (0, "note", 2)))

    def test_refused(self):
        with self.assertRaises(NoMove):
            shown(TALK, (("hand", 0, 1),), (0,))
        with self.assertRaises(NoMove):
            shown(TALK, (("lose", 1, 0),), ())


class PlainAnswers(unittest.TestCase):

    def test_plain_data_told_again_the_same_and_nothing_changed(self):
        handed = (TALK, LOST, start_world(TALK), (0, 1), asker())
        before = copy.deepcopy(handed)
        for asked in (
            lambda: worlds_of(TALK, LOST),
            lambda: end_of(TALK, start_world(TALK), LOST),
            lambda: run_text(LOST),
            lambda: run_of("0.0 !1.0"),
            lambda: story(TALK, LOST),
            lambda: shown(TALK, LOST, (0, 1)),
        ):
            told = asked()
            self.assertTrue(tuples_all_down(told))
            self.assertEqual(told, asked())
            self.assertEqual(handed, before)


if __name__ == "__main__":
    unittest.main()
