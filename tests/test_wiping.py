"""Points [22], [24]: wipes put in, whether they do, and the fewest that do; of [3], what it says of wipes."""

import copy
import itertools
import random
import unittest

from things import Explored, Seen, deep, left_of, main_row, made_program, no_texts, told_of, with_wipes
from wipeways.apart import ways_apart
from wipeways.errors import NoRow, WipeError
from wipeways.inplace import in_place
from wipeways.papers import is_let_by
from wipeways.places import word_at
from wipeways.runs import run
from wipeways.texts import read_program, show_row
from wipeways.wiping import put_in, wiped, wipes_do
from wipeways.words import is_program

WITH_DEFS = (
    "def d ( ) ( ) { }\nmain { }",
    "def d ( p ) ( ) { wipe p }\nmain { take x w call d ( x ) ( ) }",
    "def d ( ) ( ) { }\nmain { take x w }",
)


def main(text):
    return ((), main_row(text))


class TestPutIn(unittest.TestCase):

    def puts(self, row, wipes, told):
        with self.subTest(row=row, wipes=wipes):
            program = main(row)
            kept = copy.deepcopy(program)
            put = put_in(program, wipes)
            self.assertEqual(show_row(put[1]), told)
            self.assertEqual(put, with_wipes(program, wipes))
            self.assertEqual(put, put_in(program, wipes))
            self.assertIs(is_program(put), True)
            self.assertEqual(program, kept)

    def test_none(self):
        for row in ("", "tell x", "loop { choose { out 1 | } }"):
            self.puts(row, (), row)

    def test_ahead_of_words(self):
        self.puts("ask x tell y", ((("", 0), "x"),), "wipe x ask x tell y")
        self.puts("ask x tell y", ((("", 1), "x"),), "ask x wipe x tell y")
        self.puts("ask x tell y back", ((("", 1), "x"), (("", 2), "y")), "ask x wipe x tell y wipe y back")

    def test_at_the_end(self):
        self.puts("", ((("", 0), "x"),), "wipe x")
        self.puts("ask x tell x", ((("", 2), "x"),), "ask x tell x wipe x")
        self.puts("loop { out 1 }", ((("", 1), "x"), (("", 1), "y")), "loop { out 1 } wipe x wipe y")

    def test_several_at_one_place(self):
        wipes = ((("", 1), "a"), (("", 1), "k"), (("", 1), "k.a"), (("", 1), "key"))
        self.puts("ask x tell y", wipes, "ask x wipe a wipe k wipe k.a wipe key tell y")

    def test_in_rows_of_choices_and_loops(self):
        row = "choose { ask x | tell y ask x } loop { ask x loop { out 2 } }"
        self.puts(row, ((("", 0), "x"),), "wipe x " + row)
        self.puts(row, ((("", 0, 0, 0), "x"), (("", 0, 1, 0), "y"), (("", 0, 1, 1), "x"), (("", 1, 0, 1, 0, 0), "x")),
                  "choose { wipe x ask x | wipe y tell y wipe x ask x } loop { ask x loop { wipe x out 2 } }")
        self.puts(row, ((("", 1, 0, 0), "a"), (("", 1, 0, 0), "b"), (("", 2), "a")),
                  "choose { ask x | tell y ask x } loop { wipe a wipe b ask x loop { out 2 } } wipe a")

    def test_beside_rows_without_words(self):
        self.puts("choose { | ask x | } loop { }", ((("", 0), "x"), (("", 0, 1, 0), "y"), (("", 2), "z")),
                  "wipe x choose { | wipe y ask x | } loop { } wipe z")

    def test_by_chance(self):
        chance = random.Random(71)
        for _ in range(200):
            program = made_program(chance, most_defs=0, deep=4)
            may = Seen(program, most=0).may_wipes()
            wipes = tuple(sorted(chance.sample(may, chance.randrange(min(9, len(may) + 1)))))
            self.assertEqual(put_in(program, wipes), with_wipes(program, wipes))


class TestNoRow(unittest.TestCase):

    def test_programs_with_defs(self):
        for text in WITH_DEFS:
            program = read_program(text)
            with self.subTest(text=text):
                self.refused(put_in, program, ())
                self.refused(wiped, program)
                for thing in no_texts() + ["", ((("", 0), "x"),)]:
                    self.refused(wipes_do, program, thing)

    def refused(self, asked, *things):
        with self.assertRaises(WipeError) as raised:
            asked(*things)
        self.assertIs(type(raised.exception), NoRow)


class TestWipesDo(unittest.TestCase):

    def do(self, row, *wipes):
        with self.subTest(row=row, wipes=wipes):
            self.assertIs(wipes_do(main(row), wipes), True)

    def do_not(self, row, *wipes):
        with self.subTest(row=row, wipes=wipes):
            self.assertIs(wipes_do(main(row), wipes), False)

    def test_none(self):
        self.do("")
        self.do("take x w wipe x")
        self.do_not("take x w")

    def test_wipes(self):
        self.do("take x w", (("", 1), "x"))
        self.do_not("take x w", (("", 0), "x"))
        self.do_not("take x w", (("", 1), "y"))
        self.do("take x w tell y", (("", 1), "x"))
        self.do("take x w tell y", (("", 2), "x"))
        self.do("take x w tell x", (("", 2), "x"))
        self.do("take x w choose { tell x | }", (("", 2), "x"))
        self.do("take x w choose { tell x | tell y }", (("", 1, 1, 0), "x"), (("", 2), "x"))
        self.do_not("take x w choose { tell x | tell y }", (("", 1, 1, 0), "x"))
        self.do("take x w drop ( x )", (("", 1), "x"))
        self.do_not("take x w drop ( x )", (("", 2), "x"))
        self.do("take x w risk f wipe x", (("", 1), "x"))
        self.do("take x w fault f", (("", 1), "x"))
        self.do("take x w back", (("", 1), "x"))
        self.do("take x w take y u", (("", 1), "x"), (("", 2), "y"))
        self.do("take x w take y u", (("", 2), "x"), (("", 2), "y"))
        # More than are needed do, too.
        self.do("take x w", (("", 0), "x"), (("", 1), "x"))
        self.do("ask x", (("", 0), "x"), (("", 0), "y"), (("", 1), "x"))

    def test_of_boxes_that_the_program_does_not_name(self):
        self.do("", (("", 0), "x"))
        self.do("ask x", (("", 0), "key.low"), (("", 1), "key"))
        self.do_not("take x w", (("", 1), "key.low"))

    def test_of_a_box_that_is_asked_behind(self):
        self.do_not("ask x tell x", (("", 1), "x"))
        self.do_not("take x w tell x", (("", 1), "x"), (("", 2), "x"))
        self.do_not("ask x choose { tell x | tell y }", (("", 1), "x"))
        self.do("ask x choose { tell x | tell y }", (("", 1, 1, 0), "x"))
        self.do_not("copy x x", (("", 0), "x"))

    def test_at_a_loop(self):
        self.do_not("ask x loop { out 1 }", (("", 1), "x"))
        self.do("ask x loop { out 1 }", (("", 1, 0, 0), "x"))
        self.do_not("ask x loop { loop { } }", (("", 1, 0, 0), "x"))

    def test_places_that_are_none(self):
        row = "choose { ask x | } loop { out 1 }"
        self.do(row, (("", 0), "x"), (("", 0, 0, 0), "x"), (("", 1, 0, 0), "x"), (("", 2), "x"))
        for place in (("", 3), ("", -1), ("",), (), ("", 0, 0), ("", 0, 0, 1), ("", 0, 1, 0), ("", 0, 2, 0), ("d", 0),
                      ("", 1, 0, 1), ("", 1, 1, 0), ("main", 0), (0,), (0, 0), ("", "0"), ("", None), ("", (0,)),
                      ("", 0, 0, 0, 0, 0), ("", 10 ** 5000), ("", [0]), ({}, 0), (["", 0])):
            self.do_not(row, (place, "x"))

    def test_truths_for_numbers(self):
        self.do("take x w", (("", 1), "x"))
        self.do_not("take x w", (("", True), "x"))
        self.do_not("ask x", (("", False), "x"))
        self.do_not("choose { ask x }", (("", 0, False, 0), "x"))

    def test_twice_and_not_rising(self):
        self.do("take x w take y u", (("", 2), "x"), (("", 2), "y"))
        self.do_not("take x w take y u", (("", 2), "y"), (("", 2), "x"))
        self.do_not("take x w take y u", (("", 2), "x"), (("", 2), "x"), (("", 2), "y"))
        self.do("take x w take y u", (("", 1), "x"), (("", 2), "y"))
        self.do_not("take x w take y u", (("", 2), "y"), (("", 1), "x"))

    def test_things_that_are_no_wipes(self):
        program = main("take x w")
        wipe = (("", 1), "x")
        self.assertIs(wipes_do(program, (wipe,)), True)
        for thing in no_texts() + ["", "wipe x", deep(20)]:
            self.assertIs(wipes_do(program, thing), False)
            self.assertIs(wipes_do(main(""), thing), thing == () and isinstance(thing, tuple))
            self.assertIs(wipes_do(program, (thing,)), False)
            self.assertIs(wipes_do(program, (wipe, thing)), False)
            self.assertIs(wipes_do(program, ((thing, "x"),)), False)
            self.assertIs(wipes_do(program, ((("", 1), thing),)), False)
        for thing in ([wipe], wipe, (list(wipe),), ((["", 1], "x"),), (wipe + ("x",),), (wipe[:1],), {wipe: wipe}):
            self.assertIs(wipes_do(program, thing), False)
        for box in ("", "X", "x.", ".x", "x.y.z", "take", "x ", "abcdefghi", "x.tell"):
            self.assertIs(wipes_do(program, (wipe, (("", 1), box))), False)

    def test_by_chance(self):
        chance = random.Random(72)
        seen = {True: 0, False: 0}
        for _ in range(600):
            program = made_program(chance, most_defs=0, deep=3)
            may = Seen(program).may_wipes()
            wipes = tuple(sorted(chance.sample(may, chance.randrange(len(may) + 1))))
            found = Explored(with_wipes(program, wipes), "")
            if found.whole:
                self.assertIs(wipes_do(program, wipes), not found.stays)
                seen[not found.stays] += 1
        self.assertGreater(min(seen.values()), 50)


class WipedCase(unittest.TestCase):

    def right(self, program):
        """Sees that what is told of the program is as is told; returns it."""
        kept = copy.deepcopy(program)
        told = wiped(program)
        self.assertEqual(told, wiped(program))
        self.assertEqual(program, kept)
        seen = Seen(program)
        if not seen.whole:
            return told
        if told[0] == "stays":
            self.assertEqual(told, ("stays", *seen.stays()))
            # Nothing that may be wiped does.
            self.assertIs(wipes_do(program, seen.may_wipes()), False)
            return told
        self.assertIsNone(seen.stays())
        self.assertEqual((len(told), told[0]), (3, "wiped"))
        self.wipes_right(program, seen, told[1])
        self.ways_right(program, seen, told[1], told[2])
        return told

    def wipes_right(self, program, seen, wipes):
        self.assertEqual(wipes, tuple(sorted(set(wipes))))
        self.assertLessEqual(set(wipes), set(seen.may_wipes()))
        self.assertIs(wipes_do(program, wipes), True)
        self.assertIs(is_let_by(put_in(program, wipes)), True)
        for at in range(len(wipes)):
            self.assertIs(is_let_by(with_wipes(program, wipes[:at] + wipes[at + 1:])), False)

    def ways_right(self, program, seen, wipes, ways):
        boxes = [box for place, box in wipes]
        self.assertEqual([box for box, ways_of_box in ways], sorted(set(boxes)))
        self.assertIs(ways_apart(program, ways), True)
        for box, ways_of_box in ways:
            self.assertEqual(len(ways_of_box), boxes.count(box))
            for way in ways_of_box:
                self.assertTrue(seen.is_way(box, way))
            for one, other in itertools.combinations(ways_of_box, 2):
                self.assertTrue(seen.are_apart(box, one, other))

    def wipes(self, row, many):
        """Sees that so many wipes are told for the row."""
        with self.subTest(row=row):
            told = self.right(main(row))
            self.assertEqual(told[0], "wiped")
            self.assertEqual(len(told[1]), many)

    def stays(self, row, place, box):
        with self.subTest(row=row):
            self.assertEqual(self.right(main(row)), ("stays", place, box))


class TestWiped(WipedCase):

    def test_no_wipe(self):
        for row in ("", "ask x tell x", "take x w wipe x", "take x w loop { }", "take x w open x x", "back take x w",
                    "take key.a w clear key", "loop { take x w choose { | wipe x out 1 } }", "take x w ask x risk f"):
            with self.subTest(row=row):
                self.assertEqual(self.right(main(row)), ("wiped", (), ()))

    def test_one_wipe(self):
        self.assertEqual(wiped(main("take x w")), ("wiped", ((("", 1), "x"),), (("x", ((("", 1),),)),)))
        for row in ("take x w tell x", "take x w copy x x", "ask x take y w mix x x y open y y", "take x w clear x",
                    "take x w choose { tell x | }", "choose { take x w | take x u | ask x } tell x", "take x w fault f",
                    "take x w drop ( x y )", "take x w tell x back wipe x", "take x w tell x risk f wipe x",
                    "loop { take x w choose { out 1 | tell x | } } tell x", "take key.a w take key.b w clear keys wipe key.b"):
            self.wipes(row, 1)

    def test_fewer_than_the_ends(self):
        self.wipes("take x w choose { back | fault f | fault g | }", 1)
        self.wipes("take x w tell x choose { back | risk f fault f | drop ( x ) } risk f", 1)
        self.wipes("choose { take x w | take x w | take x w } tell x choose { back | fault f | back | }", 1)

    def test_as_many_as_are_needed(self):
        self.wipes("take x w take y w", 2)
        self.wipes("take x w copy y x tell x", 2)
        # One way goes on to ask it, the other one ends.
        self.wipes("take x w choose { tell x | fault f }", 2)
        self.wipes("take x w choose { fault f | tell x back | choose { tell x | fault g } } tell y", 4)
        self.wipes("choose { take x w fault f | take x w tell x }", 2)

    def test_within_loops_and_choices(self):
        told = self.right(main("loop { take x w tell x choose { risk f | out 1 | number x 5 } }"))
        self.assertEqual(len(told[1]), 1)
        self.assertIn(told[1][0][0], (("", 0, 0, 2),))
        told = self.right(main("loop { choose { take x w tell x drop ( x ) | out 1 } }"))
        self.assertEqual(told[1], ((("", 0, 0, 0, 0, 2), "x"),))
        told = self.right(main("take x w loop { choose { tell x | wipe x out 1 | fault f } }"))
        self.assertEqual(told[1], ((("", 1, 0, 0, 2, 0), "x"),))

    def test_at_loops_none_is_put_in(self):
        for row in ("take x w loop { choose { out 1 | } }", "take x w loop { loop { choose { out 2 | out 1 } } fault f }",
                    "take x w loop { loop { out 2 } }", "take x w loop { choose { loop { out 2 } | tell x } }"):
            program = main(row)
            self.wipes(row, 1)
            ((place, box),) = wiped(program)[1]
            self.assertNotEqual((word_at(program, place) or ("end",))[0], "loop")

    def test_nothing_told_changes(self):
        row = "take x w loop { choose { tell x | out 1 | mix y x x } } copy z y tell z risk f"
        program = main(row)
        told = self.right(program)
        put = put_in(program, told[1])
        for answers in itertools.product((0, 1, 2), repeat=5):
            if run_or_none(program, answers) is None:
                continue
            one, other = run(program, answers, 60), run(put, answers, 400)
            self.assertEqual((one[0], told_of(one)), (other[0], told_of(other)))
            self.assertEqual(left_of(other), ())

    def test_no_fewer_do(self):
        chance = random.Random(73)
        many = set()
        for _ in range(150):
            program = made_program(chance, most_defs=0, deep=3)
            told = wiped(program)
            may = Seen(program).may_wipes()
            if told[0] == "stays" or len(may) > 22 or not 1 <= len(told[1]) <= 3:
                continue
            for fewer in itertools.combinations(may, len(told[1]) - 1):
                self.assertIs(wipes_do(program, fewer), False)
            many.add(len(told[1]))
        self.assertEqual(many, {1, 2, 3})

    def test_by_chance(self):
        chance = random.Random(74)
        kinds, many = set(), set()
        for _ in range(2500):
            program = made_program(chance, most_defs=0, deep=4)
            told = self.right(program)
            kinds.add(told[0])
            if told[0] == "wiped":
                many.update(len(ways) for box, ways in told[2])
        self.assertEqual(kinds, {"wiped", "stays"})
        self.assertLessEqual({1, 2, 3}, many)

    def test_runs_by_chance(self):
        chance = random.Random(75)
        for _ in range(150):
            program = made_program(chance, most_defs=0, deep=3)
            told = wiped(program)
            if told[0] == "stays":
                continue
            put = put_in(program, told[1])
            for _ in range(5):
                answers = tuple(chance.choice((0, 0, 1, 1, 2, 3)) for _ in range(12))
                one = run_or_none(program, answers)
                if one is None or one[:3:2] == ("on", 100):
                    continue
                other = run(put, answers, 400)
                self.assertEqual((one[0], told_of(one)), (other[0], told_of(other)))
                self.assertEqual(left_of(other), ())

    def test_with_defs_put_in_place(self):
        chance = random.Random(76)
        done = 0
        for _ in range(60):
            program = made_program(chance, most_defs=2, deep=2)
            try:
                placed = in_place(program)
            except WipeError:
                continue
            told = self.right(placed)
            done += told[0] == "wiped" and len(told[1]) > 0
        self.assertGreater(done, 10)


class TestStays(WipedCase):

    def test_a_risk_behind_which_it_is_asked(self):
        self.stays("take x w risk f tell x wipe x", ("", 1), "x")
        self.stays("take x w risk f copy y x wipe x wipe y", ("", 1), "x")
        self.stays("take x w loop { risk f choose { tell x | wipe x out 1 } }", ("", 1, 0, 0), "x")
        self.stays("loop { risk f choose { tell x | take x w | wipe x out 1 } }", ("", 0, 0, 0), "x")

    def test_the_first_place_and_its_first_box(self):
        self.stays("take y w take x w risk f risk g tell y tell x wipe x wipe y", ("", 2), "x")
        self.stays("take y w risk f take x w risk g tell y tell x wipe x wipe y", ("", 1), "y")
        self.stays("take x w take y w choose { risk f tell y | risk g tell x } wipe x wipe y", ("", 2, 0, 0), "y")
        # The box a comes first, but it is not asked behind it; nor may b hold anything.
        self.stays("take a w take c w ask b risk f tell b tell c wipe a wipe c", ("", 3), "c")

    def test_not_where_it_can_be_wiped(self):
        for row, many in (("take x w tell x risk f", 1), ("take x w risk f ask x tell x", 1),
                          ("take x w open y x wipe x risk f tell y", 0), ("ask x risk f tell x", 0),
                          ("back take x w risk f tell x", 0), ("take x w risk f wipe x tell x", 1),
                          ("take x w fault f tell x", 1)):
            self.wipes(row, many)


def run_or_none(program, answers):
    try:
        return run(program, answers, 100)
    except WipeError:
        return None


if __name__ == "__main__":
    unittest.main()
