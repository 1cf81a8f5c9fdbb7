"""Point [21]: the boxes that are asked behind a place."""

import copy
import random
import unittest

from things import asked_from, made_program
from wipeways.asking import asked_behind
from wipeways.errors import TooLong
from wipeways.inplace import in_place
from wipeways.places import places_of
from wipeways.texts import read_program


def names_of(program):
    return [one[0] for one in program[0]] + [""]


class AskingCase(unittest.TestCase):

    def asked(self, text, *told, name=""):
        """Sees that behind each place of the row, rising, the boxes are asked that are told, parted by blanks."""
        program = read_program(text)
        with self.subTest(text=text):
            places = places_of(program, name)
            found = [asked_behind(program, place) for place in places]
            self.assertEqual(found, [tuple(boxes.split()) for boxes in told])
            self.assertEqual(found, [asked_from(program, place) for place in places])

    def main(self, row, *told):
        self.asked("main { " + row + " }", *told)


class TestWords(AskingCase):

    def test_words_that_ask(self):
        self.asked("main { }", "")
        self.main("tell x", "x", "")
        self.main("copy x y", "y", "")
        self.main("open x y", "y", "")
        self.main("mix x z y", "y z", "")
        self.main("mix x y y", "y", "")
        # Also the box itself that is put into.
        self.main("copy x x", "x", "")
        self.main("open x x", "x", "")
        self.main("mix x y x", "x y", "")

    def test_words_that_ask_nothing(self):
        for word in ("take x w", "ask x", "number x 5", "wipe x", "clear x", "drop ( x )", "risk x", "fault x", "back"):
            self.main(word, "", "")

    def test_words_that_take_away(self):
        for word in ("take x w", "ask x", "number x 5", "wipe x", "drop ( x )", "drop ( y x )"):
            self.main(word + " tell x", "", "x", "")
        self.main("copy x y tell x", "y", "x", "")
        self.main("mix x y z tell x", "y z", "x", "")
        self.main("open x y tell x", "y", "x", "")
        self.main("clear x tell x.a", "", "x.a", "")

    def test_words_that_do_not_take_away(self):
        for word in ("take y w", "ask y", "number y 5", "wipe y", "drop ( y z )", "clear y", "clear x", "risk x"):
            self.main(word + " tell x", "x", "x", "")
        self.main("copy y y tell x", "x y", "x", "")
        self.main("tell y tell x", "x y", "x", "")

    def test_records(self):
        self.main("clear key tell key tell key.a tell keys.a", "key keys.a", "key key.a keys.a", "key.a keys.a", "keys.a", "")
        self.main("wipe key tell key.a tell key", "key.a", "key key.a", "key", "")

    def test_the_first_word_counts(self):
        self.main("copy x x number x 0 tell x", "x", "", "x", "")


class TestWays(AskingCase):

    def test_choices(self):
        self.main("choose { tell x | tell y | | wipe z } tell z", "x y z", "x z", "y z", "", "z", "")
        self.main("choose { wipe x | wipe x } tell x", "", "", "", "x", "")
        self.main("choose { wipe x | } tell x", "x", "", "x", "")

    def test_loops(self):
        self.main("loop { tell x }", "x", "x", "")
        self.main("loop { tell x wipe x }", "x", "x", "", "")
        self.main("loop { wipe x tell x }", "", "", "x", "")
        self.main("loop { } tell x", "", "x", "")
        self.main("loop { tell y } tell x", "y", "y", "x", "")
        # Asked the next time around.
        self.main("loop { open y x ask x }", "x", "x", "", "")

    def test_outs(self):
        self.main("loop { choose { out 1 | tell y } } tell x", "x y", "x y", "x", "x y", "x", "")
        self.main("loop { loop { choose { out 1 | out 2 } } wipe x tell y } tell x",
                  "x y", "x y", "x y", "y", "x", "y", "x y", "x", "")

    def test_risks_faults_and_backs(self):
        self.main("risk f tell x", "x", "x", "")
        self.main("fault f tell x", "", "x", "")
        self.main("back tell x", "", "x", "")
        self.main("choose { fault f | back | } tell x", "x", "", "", "x", "")

    def test_places_that_no_way_leads_to(self):
        self.main("back loop { tell x choose { tell y | out 1 } } copy z x", "", "x y", "x y", "x y", "x y", "x", "x", "")
        self.main("loop { } tell x", "", "x", "")


class TestDefs(AskingCase):

    def test_ends_and_backs_of_defs_ask_the_results(self):
        self.asked("def d ( p ) ( r q ) { }\nmain { tell p }", "q r", name="d")
        self.asked("def d ( p ) ( r q ) { }\nmain { tell p }", "p", "")
        self.asked("def d ( p ) ( p ) { tell q back wipe p }\nmain { }", "p q", "p", "", "p", name="d")
        self.asked("def d ( ) ( r ) { loop { choose { back | wipe r | fault f } } }\nmain { }",
                   "r", "r", "r", "", "", "r", name="d")
        self.asked("def d ( ) ( k.a ) { clear k }\nmain { }", "", "k.a", name="d")
        self.asked("def d ( ) ( r ) { loop { } }\nmain { }", "", "r", name="d")

    def test_calls(self):
        text = "def d ( p q ) ( r ) { copy r p }\nmain { call d ( x y ) ( z ) tell x tell z tell a }"
        # The args are asked and handed over; the gets are taken away.
        self.asked(text, "a x y", "a x z", "a z", "a", "")
        self.asked("def d ( ) ( r s ) { }\nmain { call d ( ) ( x y ) tell x tell y tell z }",
                   "z", "x y z", "y z", "z", "")
        self.asked("def d ( p ) ( p ) { }\nmain { call d ( x ) ( x ) tell x }", "x", "x", "")
        self.asked("def d ( p ) ( ) { }\nmain { wipe x call d ( x ) ( ) }", "", "x", "")

    def test_a_def_that_never_comes_back(self):
        for row in ("loop { }", "fault f", "loop { risk f }", "loop { ask p choose { | fault g } }"):
            text = "def d ( p ) ( ) { " + row + " }\nmain { call d ( x ) ( ) tell y }"
            self.asked(text, "x", "y", "")
        text = "def d ( ) ( ) { fault f }\ndef e ( ) ( r ) { call d ( ) ( ) }\nmain { call e ( ) ( x ) tell y }"
        self.asked(text, "", "y", "")
        self.asked(text, "", "r", name="e")
        text = "def d ( ) ( ) { choose { fault f | back } }\ndef e ( ) ( r ) { call d ( ) ( ) }\nmain { call e ( ) ( ) }"
        self.asked(text.replace("e ( ) ( ) }", "e ( ) ( x ) tell y }"), "y", "y", "")

    def test_backs_to_which_no_way_leads(self):
        text = "def d ( ) ( ) { fault f back }\nmain { call d ( ) ( ) tell y }"
        self.asked(text, "", "y", "")

    def test_defs_call_those_ahead(self):
        text = "def d ( p ) ( p ) { }\ndef e ( a b ) ( a ) { call d ( b ) ( a ) tell b }\nmain { }"
        self.asked(text, "b", "a b", "a", name="e")


class TestByChance(unittest.TestCase):

    def test_as_found_by_going_all_ways(self):
        chance = random.Random(61)
        asked = 0
        for _ in range(250):
            program = made_program(chance, most_defs=3, deep=3)
            kept = copy.deepcopy(program)
            for name in names_of(program):
                for place in places_of(program, name):
                    told = asked_behind(program, place)
                    self.assertEqual(told, asked_from(program, place), (program, place))
                    asked += len(told)
            self.assertEqual(program, kept)
        self.assertGreater(asked, 1000)

    def test_with_defs_put_in_place(self):
        chance = random.Random(62)
        for _ in range(30):
            program = made_program(chance, most_defs=2, deep=2)
            try:
                placed = in_place(program)
            except TooLong:
                continue
            places = places_of(placed, "")
            for place in chance.sample(places, min(5, len(places))):
                self.assertEqual(asked_behind(placed, place), asked_from(placed, place))


if __name__ == "__main__":
    unittest.main()
