"""A desk: a program and a run of it, which goes on and back move by move."""

from lettermoat.asks import answer
from lettermoat.claims import check_claim, claim_of, is_so
from lettermoat.errors import NoMove
from lettermoat.runs import move_of, move_text, run_text, story
from lettermoat.texts import program_of
from lettermoat.worlds import moved, moves, start_world


class Desk:
    def __init__(self, text):
        self.program = program_of(text)
        self.run = []
        self.passed = [start_world(self.program)]

    # The run and its worlds change only when nothing is left that may be refused.
    def go(self, line):
        move = move_of(line)
        world = moved(self.program, self.passed[-1], move)
        self.run.append(move)
        self.passed.append(world)
        return self.moves_line()

    def back(self):
        if len(self.run) == 0:
            raise NoMove("there is no move to take back")
        self.passed.pop()
        return move_text(self.run.pop())

    def moves_line(self):
        return run_text(moves(self.program, self.passed[-1]))

    def story_text(self):
        return story(self.program, tuple(self.run))

    def run_line(self):
        return run_text(tuple(self.run))

    def holds_now(self, claims):
        read = [claim_of(text) for text in claims]
        for claim in read:
            check_claim(self.program, claim)
        return tuple([is_so(self.passed[-1], claim) for claim in read])

    def asked(self, line):
        return answer(self.program, line)
