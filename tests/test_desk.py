"""Point [27]: desks; each row that they are told, and those that they refuse."""

import random
import unittest

from things import left_of, made_program, made_straight, no_texts
from wipeways.desk import Desk
from wipeways.errors import NoCode, NoRow, WipeError
from wipeways.laying import coded
from wipeways.runs import run
from wipeways.texts import show_program, show_row
from wipeways.ways import way_left
from wipeways.windows import shorter
from wipeways.wiping import put_in, wiped

DOUBLE = "def double ( x ) ( y ) { mix y x x wipe x }"
TWICE = "def twice ( a ) ( b ) { call double ( a ) ( b ) call double ( b ) ( b ) }"
LOSE = "def lose ( x ) ( ) { choose { drop ( x ) | wipe x } }"


class DeskCase(unittest.TestCase):

    def setUp(self):
        self.desk = Desk()

    def says(self, row, told):
        with self.subTest(row=row):
            self.assertEqual(self.desk.say(row), told)

    def refuses(self, row, error=NoRow):
        """Sees that the row is refused, and that this changes nothing."""
        shown = self.desk.say("show")
        with self.subTest(row=row if isinstance(row, str) else "no text"):
            with self.assertRaises(WipeError) as raised:
                self.desk.say(row)
            self.assertIs(type(raised.exception), error)
            self.assertEqual(self.desk.say("show"), shown)


class TestDefs(DeskCase):

    def test_kept_in_their_order(self):
        self.says("show", "")
        self.says(DOUBLE, "ok")
        self.says("show", DOUBLE)
        self.says(LOSE, "ok")
        self.says(TWICE, "ok")
        self.says("show", "\n".join((DOUBLE, LOSE, TWICE)))
        self.says("drop lose", "ok")
        self.says("show", "\n".join((DOUBLE, TWICE)))
        self.says(LOSE, "ok")
        self.says("show", "\n".join((DOUBLE, TWICE, LOSE)))

    def test_six_defs(self):
        for name in "abcdeg":
            self.says("def " + name + " ( ) ( ) { }", "ok")
        self.refuses("def h ( ) ( ) { }")
        self.says("drop c", "ok")
        self.says("def h ( ) ( ) { }", "ok")
        self.assertEqual([line[4] for line in self.desk.say("show").split("\n")], list("abdegh"))

    def test_defs_that_make_no_program(self):
        self.refuses(TWICE)
        self.refuses("def d ( ) ( ) { call d ( ) ( ) }")
        self.says(DOUBLE, "ok")
        self.refuses(DOUBLE)
        self.refuses("def double ( ) ( ) { }")
        self.refuses("def d ( ) ( ) { call double ( ) ( a ) }")
        self.refuses("def d ( x x ) ( ) { }")
        self.refuses("def d ( a b c d e ) ( ) { }")
        self.refuses("def d ( ) ( ) { out 1 }")
        self.refuses("def d ( ) ( ) { number x 10000 }")
        self.refuses("def take ( ) ( ) { }")
        self.refuses("def Big ( ) ( ) { }")
        self.refuses("def d ( ) ( ) { drop ( ) }")
        self.says(TWICE, "ok")

    def test_drops(self):
        self.refuses("drop double")
        self.says(DOUBLE, "ok")
        self.says(TWICE, "ok")
        # It is called, and its name is no other's.
        self.refuses("drop double")
        self.refuses("drop lose")
        self.refuses("drop doubl")
        self.refuses("drop doublee")
        self.says("drop twice", "ok")
        self.refuses("drop twice")
        self.says("drop double", "ok")
        self.says("show", "")

    def test_drops_that_are_none(self):
        self.says(DOUBLE, "ok")
        for row in ("drop", "drop ", "drop double double", "drop ( double )", "drop  double", "drop main", "drop Double",
                    "drop double.x", "dropdouble"):
            self.refuses(row)


class TestLook(DeskCase):

    def test_let_by(self):
        self.says("look { }", "let by")
        self.says("look { take x w wipe x }", "let by")
        self.says(DOUBLE, "ok")
        self.says("look { take x w call double ( x ) ( x ) wipe x }", "let by")

    def test_ways(self):
        self.says("look { take x w }", "left x at main.1 by 0")
        self.says("look { ask y take key.low w risk f wipe key.low }", "left key.low at main.2 by 0 0 1")
        self.says("look { take x w choose { wipe x | loop { choose { out 1 } } | wipe x } }", "left x at main.2 by 0 1 0")
        self.says("look { take x w choose { wipe x | ask y drop ( x ) } }", "left x at main.1.1.1 by 0 1 0")
        self.says(LOSE, "ok")
        self.says("look { take y w call lose ( y ) ( ) }", "left x at lose.0.0.0 by 0 0")

    def test_far(self):
        self.says("def d ( p ) ( p ) { " + "tell p " * 20 + "}", "ok")
        self.says("def e ( p ) ( p ) { " + "call d ( p ) ( p ) " * 15 + "}", "ok")
        self.says("look { take x w call e ( x ) ( x ) }", "left x at main.2 far")
        self.says("look { take x w call e ( x ) ( x ) wipe x }", "let by")

    def test_as_way_left_tells(self):
        chance = random.Random(101)
        told = set()
        for _ in range(200):
            program = made_program(chance, most_defs=3, deep=3)
            desk = kept(program)
            left = way_left(program)
            said = desk.say(braced("look", program[1]))
            if left is None:
                self.assertEqual(said, "let by")
            else:
                _, box, _, place, by, *answers = said.split(" ")
                self.assertEqual(box, left[-1])
                self.assertEqual(place, ".".join([left[-2][0] or "main"] + [str(part) for part in left[-2][1:]]))
                self.assertEqual((by, tuple(int(answer) for answer in answers)), ("by", left[1]))
                self.assertTrue(left_of(run(program, left[1], 400)))
            told.add(left is None)
        self.assertEqual(told, {True, False})


class TestWipe(DeskCase):

    def test_wipes_put_in(self):
        self.says("wipe { }", "main { }")
        self.says("wipe { take x w }", "main { take x w wipe x }")
        self.says("wipe { take x w choose { tell x | } }", "main { take x w choose { tell x | } wipe x }")
        self.says("wipe { take x w wipe x }", "main { take x w wipe x }")

    def test_stays(self):
        self.says("wipe { take x w risk f tell x }", "stays x at main.1")
        self.says("wipe { take k.a w loop { choose { risk f tell k.a | out 1 } } }", "stays k.a at main.1.0.0.0.0")

    def test_without_the_defs(self):
        self.says(DOUBLE, "ok")
        self.says("wipe { take x w }", "main { take x w wipe x }")
        self.refuses("wipe { call double ( x ) ( y ) }")
        self.refuses("wipe { take x w choose { call double ( x ) ( y ) | } }")
        self.refuses("wipe { call other ( ) ( ) }")

    def test_as_wiped_tells(self):
        chance = random.Random(102)
        for _ in range(200):
            program = made_program(chance, most_defs=0, deep=3)
            told = wiped(program)
            said = self.desk.say(braced("wipe", program[1]))
            if told[0] == "wiped":
                self.assertEqual(said, show_program(put_in(program, told[1])))
            else:
                place = ".".join(["main"] + [str(part) for part in told[1][1:]])
                self.assertEqual(said, "stays " + told[2] + " at " + place)


class TestShort(DeskCase):

    def test_rows(self):
        self.says("short { }", "main { }")
        self.says("short { copy x x tell x }", "main { tell x }")
        self.says("short { number x 5 loop { copy y x } }", "main { loop { } }")

    def test_with_defs_kept(self):
        self.says("def d ( p ) ( r ) { number q 5 copy r p wipe p }", "ok")
        self.says("short { take x w call d ( x ) ( y ) number z 5 wipe y }",
                  "def d ( p ) ( r ) { copy r p wipe p }\nmain { take x w call d ( x ) ( y ) wipe y }")
        # The def that is kept stays as it was.
        self.says("show", "def d ( p ) ( r ) { number q 5 copy r p wipe p }")

    def test_as_shorter_tells(self):
        chance = random.Random(103)
        for _ in range(100):
            program = made_program(chance, most_defs=3, deep=3)
            self.assertEqual(kept(program).say(braced("short", program[1])), show_program(shorter(program)[0]))


class TestCode(DeskCase):

    def test_how_many_orders(self):
        self.says("code 3 { }", "0")
        self.says("code 8 { tell x }", "1")
        self.says("code 3 { take x w wipe x }", "2")

    def test_as_coded_tells(self):
        chance = random.Random(104)
        for hands in range(3, 9):
            for _ in range(10):
                row = made_straight(chance, chance.randrange(30), ("a", "b", "c", "d", "e", "g", "k.h", "k.i"))
                self.says(braced("code " + str(hands), row), str(len(coded(row, hands))))

    def test_rows_of_which_there_is_none(self):
        for hands in range(3, 9):
            for row in ("take x w", "risk f", "back", "choose { | }", "loop { }", "clear r", "drop ( x )", "fault f",
                        "take x w copy y x wipe x", "take x w wipe x loop { out 1 }"):
                self.refuses("code " + str(hands) + " { " + row + " }", NoCode)

    def test_rows_that_are_none(self):
        self.says(DOUBLE, "ok")
        for row in ("code { }", "code 2 { }", "code 9 { }", "code 0 { }", "code 03 { }", "code 3", "code 3 {", "code 3 }",
                    "code 3 { } ", "code  3 { }", "code 3  { }", "code +3 { }", "code -3 { }", "code 3.0 { }", "code x { }",
                    "code 13 { }", "code 33 { }", "code " + "3" * 5000 + " { }", "code 10003 { }", "code 3 { take x w", "code",
                    "code 3 { } { }", "code 3 { tell }", "code 3 { out 1 }", "code 3 { number x 05 }", "code 3 3 { }"):
            self.refuses(row)
        # A call is no straight word, but without the defs it makes no program, which goes first.
        self.refuses("code 3 { call double ( x ) ( y ) }")
        self.refuses("code 9 { take x w }")


class TestNoRow(DeskCase):

    ROWS = (DOUBLE, "show", "look { take x w }", "look { }", "wipe { take x w choose { tell x | } }", "short { copy x x }",
            "code 3 { take x w wipe x }")

    def test_things_that_are_no_texts(self):
        for thing in no_texts():
            self.refuses(thing)
        self.refuses(["show"])
        self.refuses(("show",))
        self.refuses({"show": "show"})

    def test_blanks(self):
        for row in self.ROWS:
            for bent in [" " + row, row + " ", row + "\n", "\n" + row, row + "\t", "\t" + row, row + "\n" + row]:
                self.refuses(bent)
            for at, sign in enumerate(row):
                if sign == " ":
                    self.refuses(row[:at] + " " + row[at:])
                    self.refuses(row[:at] + "\n" + row[at + 1:])
                    self.refuses(row[:at] + row[at + 1:])

    def test_a_mark_less_or_more(self):
        self.says(DOUBLE, "ok")
        for row in self.ROWS[1:]:
            marks = row.split(" ")
            for at in range(len(marks)):
                for bent in (marks[:at] + marks[at + 1:], marks[:at] + ["}"] + marks[at:], marks[:at] + ["{"] + marks[at:]):
                    bent = " ".join(bent)
                    if bent not in self.ROWS and bent != "wipe { take x w choose { tell x } }":
                        self.refuses(bent)

    def test_words_that_a_desk_is_not_told(self):
        for row in ("", " ", "{ }", "main { }", "main", "look", "wipe", "short", "wipe x", "tell { }", "keep { }", "Show",
                    "show { }", "show double", "look ( )", "look { } { }", "look main { }", "def", "def d", "def d ( ) { }",
                    "def ( ) ( ) { }", "open { }", "look x { }", "short 3 { }", "drop", "look { | }", "look { } }"):
            self.refuses(row)

    def test_rows_that_make_no_program(self):
        for kind in ("look", "wipe", "short", "code 4"):
            for row in ("out 1", "take x take", "take x", "number x 10000", "number x 01", "number x -1", "tell X", "tell x.y.z",
                        "drop ( )", "drop ( x x )", "loop { out 2 }", "call d ( ) ( )", "choose { | | | | }", "tell abcdefghi",
                        "number x " + "9" * 4500, "loop { out 0 }", "choose", "mix x y", "def", "copy x y z"):
                self.refuses(kind + " { " + row + " }")

    def test_calls_that_do_not_fit(self):
        self.says(DOUBLE, "ok")
        for kind in ("look", "short"):
            self.assertIsInstance(self.desk.say(kind + " { call double ( x ) ( y ) }"), str)
            self.refuses(kind + " { call double ( ) ( y ) }")
            self.refuses(kind + " { call double ( x ) ( y z ) }")
            self.refuses(kind + " { call twice ( x ) ( y ) }")


class TestDesks(DeskCase):

    def test_two_side_by_side(self):
        other = Desk()
        self.says(DOUBLE, "ok")
        self.assertEqual(other.say("show"), "")
        self.assertEqual(other.say("def double ( ) ( ) { }"), "ok")
        self.says("look { take x w call double ( x ) ( x ) wipe x }", "let by")
        self.assertRaises(NoRow, other.say, "look { take x w call double ( x ) ( x ) wipe x }")
        self.says("drop double", "ok")
        self.assertEqual(other.say("show"), "def double ( ) ( ) { }")

    def test_asking_changes_nothing(self):
        self.says(DOUBLE, "ok")
        for row in TestNoRow.ROWS[1:]:
            self.assertEqual(self.desk.say(row), self.desk.say(row))
            self.says("show", DOUBLE)


def kept(program):
    """A desk that keeps the defs of the program."""
    desk = Desk()
    for line in show_program(program).split("\n")[:-1]:
        assert desk.say(line) == "ok"
    return desk


def braced(kind, row):
    return kind + " { " + show_row(row) + " }" if row else kind + " { }"


if __name__ == "__main__":
    unittest.main()
