"""Point [3], over all modules together: programs made by chance, held against runs by chance."""

import random
import unittest

from things import left_of, main_row, made_program, made_straight, told_of
from wipeways.apart import ways_apart
from wipeways.asking import asked_behind
from wipeways.checker import is_paper, lets_by
from wipeways.codes import code_holds, run_code
from wipeways.desk import Desk
from wipeways.errors import NoAnswer, NoCode, TooLong
from wipeways.inplace import in_place
from wipeways.laying import coded
from wipeways.papers import is_let_by, paper_of
from wipeways.places import word_at
from wipeways.runs import run
from wipeways.texts import read_program, show_program, show_row
from wipeways.ways import way_left
from wipeways.windows import shorter, turned
from wipeways.wiping import put_in, wiped, wipes_do
from wipeways.words import is_program, words_in

MOST = 250


def chance_runs(chance, program, many):
    """Answers by chance with which the program runs, each with what the run tells."""
    found = []
    for _ in range(many):
        answers = []
        told = run(program, (), MOST)
        while told[0] == "on" and told[2] < MOST and len(answers) < 40:
            answers.append(chance.choice((0, 0, 1, 1, 2, 3, chance.randrange(10000))))
            try:
                told = run(program, tuple(answers), MOST)
            except NoAnswer:
                answers[-1] = 0
                told = run(program, tuple(answers), MOST)
        found.append((tuple(answers), told))
    return found


def ending(told):
    """How a run ends, and what it tells."""
    return (told[0], told[1] if told[0] == "fault" else None, told_of(told))


def is_over(told):
    return told[0] != "on"


class TestWhole(unittest.TestCase):

    @classmethod
    def setUpClass(cls):
        chance = random.Random(111)
        cls.programs = [made_program(chance, most_defs=4, deep=4) for _ in range(200)]
        cls.runs = [(program, chance_runs(chance, program, 6)) for program in cls.programs]

    def setUp(self):
        self.chance = random.Random(112)

    def test_let_by_is_what_no_run_leaves_anything_of(self):
        seen = set()
        for program, runs in self.runs:
            let_by = is_let_by(program)
            seen.add(let_by)
            left = way_left(program)
            self.assertEqual(left is None, let_by)
            if let_by:
                self.assertFalse(any(left_of(told) for _, told in runs))
            elif left[0] == "way":
                told = run(program, left[1], 400)
                self.assertIn(left[2:], [one[:2] for one in left_of(told)])
        self.assertEqual(seen, {True, False})

    def test_papers_note_what_runs_hold(self):
        held = 0
        for program, runs in self.runs:
            paper = paper_of(program)
            self.assertIs(is_paper(program, paper), True)
            self.assertIs(lets_by(program, paper), is_let_by(program))
            notes = dict(paper[-1][1])
            for answers, told in runs:
                for steps in range(min(40, told[1 if told[0] == "ended" else 2])):
                    now = run(program, answers, steps)
                    if now[0] == "on" and now[1][0] == "":
                        pairs = {(box, worth) for box, number, worths in now[5] for worth in worths}
                        self.assertLessEqual(pairs, set(notes[now[1]]))
                        held += len(pairs)
        self.assertGreater(held, 100)

    def test_defs_put_in_place(self):
        done = 0
        for program, runs in self.runs:
            try:
                placed = in_place(program)
            except TooLong:
                continue
            self.assertIs(is_program(placed), True)
            self.assertEqual(is_let_by(placed), is_let_by(program))
            for answers, told in runs:
                if is_over(told):
                    self.assertEqual(ending(run(placed, answers, 20 * MOST)), ending(told))
                    done += len(program[0]) > 0
        self.assertGreater(done, 100)

    def test_wipes_put_in(self):
        many = 0
        for program in self.programs:
            try:
                program = in_place(program)
            except TooLong:
                continue
            told = wiped(program)
            if told[0] == "stays":
                self.assertEqual(word_at(program, told[1])[0], "risk")
                self.assertIn(told[2], asked_behind(program, told[1]))
                continue
            put = put_in(program, told[1])
            self.assertIs(is_let_by(put), True)
            self.assertIsNone(way_left(put))
            self.assertIs(wipes_do(program, told[1]), True)
            self.assertIs(ways_apart(program, told[2]), True)
            self.assertEqual(len(told[1]), sum(len(ways) for box, ways in told[2]))
            for place, box in told[1]:
                self.assertNotIn(box, asked_behind(program, place))
            for answers, end in chance_runs(self.chance, program, 3):
                wiped_end = run(put, answers, 4 * MOST)
                self.assertEqual(left_of(wiped_end), ())
                if is_over(end):
                    self.assertEqual(ending(wiped_end), ending(end))
            many += len(told[1])
        self.assertGreater(many, 50)

    def test_words_taken_away(self):
        many = 0
        for program, runs in self.runs:
            told, turns = shorter(program)
            many += len(turns)
            self.assertLessEqual(is_let_by(program), is_let_by(told))
            now = program
            for turn in turns:
                now = turned(now, turn)
            self.assertEqual(now, told)
            for answers, end in runs:
                if is_over(end):
                    after = run(told, answers, MOST)
                    self.assertEqual(ending(after), ending(end))
                    self.assertLessEqual(self.worths(after), self.worths(end))
        self.assertGreater(many, 100)

    @staticmethod
    def worths(told):
        return {(place[0], box, worth) for place, box, worths in left_of(told) for worth in worths}

    def test_codes(self):
        for many in range(1, 41):
            row = made_straight(self.chance, many, ("a", "b", "c", "d", "e", "k.a", "k.b")[:self.chance.randrange(1, 8)])
            hands = self.chance.randrange(3, 9)
            code = coded(row, hands)
            self.assertIs(code_holds(row, hands, code), True)
            for answers, told in chance_runs(self.chance, ((), row), 3):
                self.assertEqual(run_code(code, answers), (told_of(told), ()))
            # With wipes put in or words taken away, the row has a code that tells the same.
            for other in (put_in(((), row), wiped(((), row))[1]), shorter(((), row))[0]):
                self.assertIs(code_holds(row, hands, coded(other[1], hands)), True)

    def test_rows_without_their_wipes(self):
        for many in range(2, 41):
            row = tuple(word for word in made_straight(self.chance, many, ("a", "b", "c", "k.a")) if word[0] != "wipe")
            program = ((), row)
            put = put_in(program, wiped(program)[1])
            self.assertIs(code_holds(put[1], 3, coded(put[1], 3)), True)
            if is_let_by(program):
                self.assertIs(code_holds(row, 3, coded(row, 3)), True)
            else:
                self.assertRaises(NoCode, coded, row, 3)

    def test_what_was_told_may_be_handed_in_again(self):
        for program in self.programs:
            try:
                placed = in_place(program)
            except TooLong:
                continue
            less = shorter(placed)[0]
            told = wiped(less)
            if told[0] == "wiped":
                less = put_in(less, told[1])
                self.assertIs(is_let_by(less), True)
            for one in (placed, less):
                self.assertEqual(read_program(show_program(one)), one)
                self.assertIs(is_paper(one, paper_of(one)), True)
                if words_in(one[1]) <= 300:
                    self.assertEqual(in_place(one), one)

    def test_a_desk_tells_the_same(self):
        for program in self.programs:
            desk = Desk()
            for line in show_program(program).split("\n")[:-1]:
                self.assertEqual(desk.say(line), "ok")
            row = "{ " + show_row(program[1]) + " }" if program[1] else "{ }"
            self.assertEqual(desk.say("look " + row) == "let by", is_let_by(program))
            self.assertEqual(desk.say("short " + row), show_program(shorter(program)[0]))


class TestMixedAndOpened(unittest.TestCase):

    def test_what_was_mixed_is_kept_and_what_was_opened_is_not(self):
        for word, let_by in (("mix y x x", False), ("mix y x z", False), ("mix y z x", False), ("copy y x", False),
                             ("open y x", True), ("mix y z z", True)):
            row = main_row("take x w " + word + " wipe x tell y")
            self.assertIs(is_let_by(((), row)), let_by)
            self.assertEqual(run(((), row), (7,), 9)[3] == (), let_by)
            if let_by:
                self.assertIs(code_holds(row, 3, coded(row, 3)), True)
            else:
                self.assertRaises(NoCode, coded, row, 3)

    def test_nothing_else_opens_it(self):
        row = "take x w mix y x x copy z y wipe x wipe y open a z number b 5 mix z b z tell a"
        self.assertIs(is_let_by(((), main_row(row))), False)
        self.assertIs(is_let_by(((), main_row(row + " open z z"))), True)


if __name__ == "__main__":
    unittest.main()
