"""Point [15]: ways that leave something; of [3], that a shortest run is told just where a program isn't let by."""

import copy
import random
import unittest

from things import Explored, left_of, made_program, some_run_leaves
from wipeways.papers import is_let_by
from wipeways.runs import run
from wipeways.texts import read_program
from wipeways.ways import way_left
from wipeways.words import words_in

LET_BY = (
    "main { }",
    "main { ask x tell x }",
    "main { take x w wipe x }",
    "main { take x w loop { } }",
    "main { take x w wipe x risk f fault f }",
    "def d ( p ) ( ) { wipe p }\nmain { take x w call d ( x ) ( ) }",
    "def d ( p ) ( ) { }\nmain { ask x call d ( x ) ( ) }",
    "def d ( ) ( ) { take x w }\nmain { }",
    "def d ( ) ( ) { loop { } }\nmain { take x w call d ( ) ( ) }",
    "def d ( ) ( r ) { }\nmain { take x w call d ( ) ( x ) }",
)

# Programs that have one shortest way alone, but for what take and ask are answered, and which has one thing left:
# the text, how many steps, what is answered (None: any number), the place, the box.
ONE_WAY = (
    ("main { take x w }", 1, (None,), ("", 1), "x"),
    ("main { take x w back }", 2, (None,), ("", 1), "x"),
    ("main { ask y take x w fault f }", 3, (None, None), ("", 2), "x"),
    ("main { take x w risk f wipe x }", 2, (None, 1), ("", 1), "x"),
    ("main { risk f take x w risk f wipe x }", 3, (0, None, 1), ("", 2), "x"),
    ("main { take x w drop ( y x ) }", 2, (None,), ("", 1), "x"),
    ("main { take x w drop ( x ) loop { } }", 2, (None,), ("", 1), "x"),
    ("main { take x w copy y x wipe x tell y }", 4, (None,), ("", 4), "y"),
    ("main { take x w open x x take y w wipe x }", 4, (None, None), ("", 4), "y"),
    # Choices: the shorter one goes, and what wipes doesn't.
    ("main { take x w choose { wipe x | tell x tell x | tell x | wipe x } }", 3, (None, 2), ("", 2), "x"),
    ("main { choose { | | tell x take y w } }", 3, (2, None), ("", 1), "y"),
    ("main { take x w choose { wipe x | } }", 2, (None, 1), ("", 2), "x"),
    ("main { take x w choose { tell x back | wipe x } }", 4, (None, 0), ("", 1, 0, 1), "x"),
    ("main { choose { tell x tell x tell x take x w | loop { out 1 } take x w } }", 4, (1, None), ("", 1), "x"),
    # Loops: gone round till what is held has come far enough.
    ("main { loop { take x w choose { wipe x | out 1 } } }", 4, (None, 1), ("", 1), "x"),
    ("main { loop { choose { take x w | drop ( x ) | out 1 } wipe y } }", 7, (0, None, 1), ("", 0, 0, 0, 1, 0), "x"),
    ("main { take a w loop { copy c b copy b a wipe a risk f choose { wipe b | } } }", 6, (None, 1),
     ("", 1, 0, 3), "b"),
    ("main { take a w loop { copy c b wipe b copy b a wipe a drop ( c ) } }", 13, (None,), ("", 1, 0, 4), "c"),
    ("main { loop { loop { take x w choose { out 2 | out 1 | wipe x } } wipe x } }", 5, (None, 0), ("", 1), "x"),
    # Calls.
    ("def d ( p ) ( ) { }\nmain { take x w call d ( x ) ( ) }", 2, (None,), ("d", 0), "p"),
    ("def d ( p ) ( ) { tell p }\nmain { take x w call d ( x ) ( ) }", 3, (None,), ("d", 1), "p"),
    ("def d ( ) ( ) { ask y take x w }\nmain { risk f call d ( ) ( ) }", 4, (0, None, None), ("d", 2), "x"),
    ("def d ( ) ( r ) { take r w }\nmain { call d ( ) ( x ) tell x }", 3, (None,), ("", 2), "x"),
    ("def d ( p ) ( r ) { choose { | copy r p } wipe p }\nmain { take x w call d ( x ) ( y ) }", 5, (None, 1),
     ("", 2), "y"),
    ("def d ( p ) ( r ) { choose { tell p copy r p wipe p back | copy r p } wipe p }\nmain { take x w call d ( x ) ( y ) }",
     5, (None, 1), ("", 2), "y"),
    ("def d ( p q ) ( q p ) { }\nmain { take x w call d ( x y ) ( x y ) wipe x }", 3, (None,), ("", 3), "y"),
    # Gone through while something else is held; the shorter way back goes.
    ("def d ( ) ( ) { choose { tell x tell x | tell x } }\nmain { take y w call d ( ) ( ) }", 4, (None, 1), ("", 2), "y"),
    ("def d ( ) ( ) { choose { tell x tell x | risk f wipe x loop { } } }\nmain { take y w call d ( ) ( ) drop ( y ) }",
     4, (None, 1, 1), ("", 1), "y"),
    # Faults in a def while others wait.
    ("def d ( ) ( ) { risk f }\nmain { take x w call d ( ) ( ) wipe x }", 3, (None, 1), ("", 1), "x"),
    ("def d ( ) ( r ) { risk f }\nmain { take x w call d ( ) ( x ) }", 3, (None, 1), ("", 1), "x"),
    ("def d ( ) ( ) { risk f }\ndef e ( p ) ( ) { tell p call d ( ) ( ) wipe p }\nmain { take x w call e ( x ) ( ) }",
     5, (None, 1), ("e", 1), "p"),
    ("def d ( ) ( ) { risk f }\ndef e ( ) ( ) { call d ( ) ( ) }\nmain { take x w call e ( ) ( ) wipe x }", 4,
     (None, 1), ("", 1), "x"),
    ("def d ( ) ( ) { tell x fault f }\ndef e ( ) ( ) { choose { call d ( ) ( ) | tell x tell x tell x risk g } }\n"
     "main { take x w call e ( ) ( ) wipe x }", 6, (None, 0), ("", 1), "x"),
    ("def d ( ) ( ) { tell x tell x tell x fault f }\ndef e ( ) ( ) { choose { call d ( ) ( ) | tell x tell x risk g } }\n"
     "main { take x w call e ( ) ( ) wipe x }", 6, (None, 1, 1), ("", 1), "x"),
    # An end is no step, a back is one.
    ("def d ( ) ( ) { choose { back | } }\nmain { take x w call d ( ) ( ) }", 3, (None, 1), ("", 2), "x"),
    ("def d ( ) ( ) { choose { | back } }\nmain { take x w call d ( ) ( ) }", 3, (None, 0), ("", 2), "x"),
    ("def d ( ) ( ) { choose { back | tell x tell x } }\nmain { take x w call d ( ) ( ) }", 4, (None, 0), ("", 2), "x"),
    ("def d ( p ) ( p ) { choose { back | } }\nmain { take x w call d ( x ) ( y ) }", 3, (None, 1), ("", 2), "y"),
    ("main { take x w choose { back | } }", 2, (None, 1), ("", 2), "x"),
    # What is left far on in a def that is come to early, and early in one that is come to late.
    ("def d ( p ) ( ) { tell p tell p tell p drop ( p ) }\n"
     "main { take x w choose { call d ( x ) ( ) | tell x tell x drop ( x ) } loop { } }", 5, (None, 1),
     ("", 1, 1, 2), "x"),
    # Calls within calls.
    ("def d ( p ) ( p ) { tell p }\ndef e ( p ) ( r ) { call d ( p ) ( r ) }\ndef h ( p ) ( ) { call e ( p ) ( p ) }\n"
     "main { take x w call h ( x ) ( ) }", 5, (None,), ("h", 1), "p"),
)


def steps_of(told):
    return told[{"ended": 1, "fault": 2, "on": 2}[told[0]]]


class WayCase(unittest.TestCase):

    def right(self, program, told, steps):
        """Sees to it that the run by the answers leaves this by so many steps, with all of the answers."""
        kind, answers, place, box = told
        self.assertEqual(kind, "way")
        self.assertIs(type(answers), tuple)
        self.assertEqual({type(answer) for answer in answers} - {int}, set())
        self.assertIn((place, box), [one[:2] for one in left_of(run(program, answers, steps))])
        self.assertEqual(steps_of(run(program, answers, steps)), steps)
        # It is left by the last of these steps, none of which wants more.
        ahead = run(program, answers, steps - 1)
        self.assertEqual((ahead[0], steps_of(ahead), left_of(ahead)), ("on", steps - 1, ()))
        for many in range(len(answers)):
            fewer = run(program, answers[:many], steps)
            self.assertEqual((fewer[0], left_of(fewer)), ("on", ()))
            self.assertLess(steps_of(fewer), steps)


class TestLetBy(unittest.TestCase):

    def test_none(self):
        for text in LET_BY:
            with self.subTest(text=text):
                self.assertIsNone(way_left(read_program(text)))


class TestOneWay(WayCase):

    def test_each(self):
        for text, steps, answers, place, box in ONE_WAY:
            program = read_program(text)
            with self.subTest(text=text):
                told = way_left(program)
                self.right(program, told, steps)
                self.assertEqual(len(told[1]), len(answers))
                for answer, due in zip(told[1], answers):
                    self.assertTrue(due is None and 0 <= answer <= 9999 or answer == due)
                self.assertEqual(told[2:], (place, box))
                self.assertEqual(Explored(program, "").fewest, steps)

    def test_some_of_several(self):
        for text in (
            "main { take x w copy y x mix z y x }",
            "main { take x w copy y x drop ( x y ) }",
            "main { take x w copy y x fault f }",
            "def d ( ) ( ) { take k u fault f }\nmain { take x w call d ( ) ( ) }",
            "main { choose { take x w | take y w } }",
            "def d ( p ) ( p q ) { ask q mix q p q }\ndef e ( p ) ( p ) { call d ( p ) ( p k ) call d ( k ) ( k p ) }\n"
            "main { take x w call e ( x ) ( x ) }",
        ):
            program = read_program(text)
            with self.subTest(text=text):
                found = Explored(program, "")
                told = way_left(program)
                self.right(program, told, found.fewest)
                self.assertIn(told[2:], found.left_first)


class TestByChance(WayCase):

    def test_as_found_by_going_all_ways(self):
        chance = random.Random(41)
        steps = {}
        for _ in range(1500):
            program = made_program(chance, most_defs=chance.choice((0, 2, 6)), deep=4)
            kept = copy.deepcopy(program)
            told = way_left(program)
            self.assertEqual(told is None, is_let_by(program))
            found = Explored(program, "", most=400)
            if found.fewest is not None:
                self.right(program, told, found.fewest)
                self.assertIn(told[2:], found.left_first)
                steps[found.fewest] = steps.get(found.fewest, 0) + 1
            elif found.whole:
                self.assertIsNone(told)
            self.assertEqual(told, way_left(program))
            self.assertEqual(program, kept)
        self.assertGreater(len(steps), 10)
        self.assertGreater(sum(steps.values()), 200)

    def test_no_shorter_run_leaves_anything(self):
        chance = random.Random(42)
        for _ in range(300):
            program = made_program(chance, most_defs=2, deep=3)
            told = way_left(program)
            if told is not None:
                steps = next(most for most in range(1, 301) if left_of(run(program, told[1], most)))
                if steps < 7:
                    self.assertFalse(some_run_leaves(program, steps - 1))


# A call of d has nine steps in all, one of e seventy-four.
SLOW = "def d ( ) ( ) { " + "tell x " * 8 + "}\ndef e ( ) ( ) { " + "call d ( ) ( ) " * 8 + "tell x }\n"


class TestFar(WayCase):

    def both(self, text, tells, place, box):
        """Sees to the way of three hundred steps, with so many tells in the stead of !, and to one tell more."""
        program = read_program(text.replace("!", "tell x " * tells))
        self.assertLessEqual(sum(words_in(one[3]) for one in program[0]) + words_in(program[1]), 60)
        told = way_left(program)
        self.right(program, told, 300)
        self.assertEqual(told[2:], (place, box))
        shorter = read_program(text.replace("!", "tell x " * (tells - 1)))
        self.right(shorter, way_left(shorter), 299)
        longer = read_program(text.replace("!", "tell x " * (tells + 1)))
        moved = place[:-1] + (place[-1] + 1,) if place[0] == "" else place
        self.assertEqual(way_left(longer), ("far", moved, box))

    def test_the_end(self):
        self.both(SLOW + "main { take y w " + "call e ( ) ( ) " * 4 + "!}", 3, ("", 8), "y")

    def test_other_ends(self):
        slow = SLOW + "main { take y w " + "call e ( ) ( ) " * 4 + "!"
        self.both(slow + "back }", 2, ("", 7), "y")
        self.both(slow + "fault f }", 2, ("", 7), "y")
        self.both(slow + "risk f wipe y }", 2, ("", 7), "y")
        self.both(slow + "drop ( y ) }", 2, ("", 7), "y")

    def test_in_a_def(self):
        slow = SLOW + "def h ( p ) ( ) { risk f tell p drop ( p ) }\nmain { "
        slow += "call e ( ) ( ) " * 3 + "call d ( ) ( ) " * 7
        self.both(slow + "!take y w wipe y choose { take z w | } call h ( z ) ( ) }", 9, ("h", 0), "p")

    def test_what_waits(self):
        slow = SLOW + "def h ( ) ( ) { tell x fault f }\nmain { take y w " + "call e ( ) ( ) " * 3 + "call d ( ) ( ) " * 7
        self.both(slow + "!call h ( ) ( ) }", 11, ("", 22), "y")

    def test_answers_on_the_way(self):
        text = "def d ( ) ( ) { " + "ask x " * 9 + "}\ndef e ( ) ( ) { " + "call d ( ) ( ) " * 9 + "}\n"
        self.both(text + "main { take y w " + "call e ( ) ( ) " * 3 + "!}", 26, ("", 30), "y")

    def test_round_and_round(self):
        # The worth goes one box on in each round: the loop, 48 copies and the choose.
        boxes = [first + second for first in "ab" for second in "abcdefghijklmnopqrstuvwxyz"][:49]
        copies = ["copy " + high + " " + low + " " for low, high in list(zip(boxes, boxes[1:]))[::-1]]
        text = "main { take aa w loop { " + "".join(copies) + "choose { | out 1 } } !}"
        for rounds in range(1, 7):
            program = read_program(text.replace("!", "".join("wipe " + box + " " for box in boxes[:rounds])))
            # The take; the rounds; the out; the wipes.
            steps = 1 + 50 * rounds + 1 + rounds
            told = way_left(program)
            if steps <= 300:
                self.right(program, told, steps)
                self.assertEqual(told[1], told[1][:1] + (0,) * (rounds - 1) + (1,))
                self.assertEqual(told[2:], (("", 2 + rounds), boxes[rounds]))
            else:
                self.assertEqual(told, ("far", ("", 2 + rounds), boxes[rounds]))

    def test_very_far(self):
        text = "def a ( ) ( ) { " + "tell x " * 8 + "}\n"
        for low, high in zip("abcde", "bcdef"):
            text += "def " + high + " ( ) ( ) { " + ("call " + low + " ( ) ( ) ") * 8 + "}\n"
        self.assertEqual(
            way_left(read_program(text + "main { take y w " + "call f ( ) ( ) " * 8 + "}")), ("far", ("", 9), "y"),
        )
        self.assertEqual(
            way_left(read_program(text + "main { call f ( ) ( ) take y w drop ( y ) loop { } }")), ("far", ("", 2), "y"),
        )
        self.assertIsNone(way_left(read_program(text + "main { take y w call f ( ) ( ) wipe y }")))
        # A short way beside a far one is told.
        told = way_left(read_program(text + "main { take y w choose { call f ( ) ( ) | tell y tell y } }"))
        self.assertEqual((told[0], told[1][1:], told[2:]), ("way", (1,), (("", 2), "y")))


if __name__ == "__main__":
    unittest.main()
