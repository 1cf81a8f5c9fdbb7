"""Point [23]: ways of boxes, and whether they are apart."""

import copy
import itertools
import random
import unittest

from things import Seen, deep, main_row, made_program, no_texts
from wipeways.apart import ways_apart
from wipeways.errors import NoRow, WipeError
from wipeways.texts import read_program
from wipeways.wiping import wiped


def main(text):
    return ((), main_row(text))


def way(*places):
    """A way told by the numbers of its places, each a number or a tuple of numbers."""
    return tuple(("", *place) if isinstance(place, tuple) else ("", place) for place in places)


class ApartCase(unittest.TestCase):

    def apart(self, row, *thing, right=True):
        program = main(row)
        with self.subTest(row=row, thing=thing):
            kept = copy.deepcopy((program, thing))
            self.assertIs(ways_apart(program, thing), right)
            self.assertIs(ways_apart(program, thing), right)
            self.assertEqual((program, thing), kept)
            seen = Seen(program)
            self.assertIs(self.told_anew(seen, thing), right)

    def not_apart(self, row, *thing):
        self.apart(row, *thing, right=False)

    @staticmethod
    def told_anew(seen, thing):
        boxes = [box for box, ways in thing]
        if boxes != sorted(set(boxes)):
            return False
        for box, ways in thing:
            if not all(seen.is_way(box, one) for one in ways):
                return False
            if not all(seen.are_apart(box, one, other) for one, other in itertools.combinations(ways, 2)):
                return False
        return True


class TestWays(ApartCase):

    def test_begin_behind_what_puts_in_something(self):
        self.apart("take x w", ("x", (way(1),)))
        self.apart("take x w copy y x", ("y", (way(2),)))
        self.apart("take x w mix y x z", ("y", (way(2),)))
        self.apart("take x w mix y z x", ("y", (way(2),)))
        self.apart("take x w copy x x", ("x", (way(2),)))
        self.apart("take x w mix x y x", ("x", (way(2),)))
        # A row of a choose, and behind a row without words.
        self.apart("choose { take x w | } tell y", ("x", (way(1, 2),)))
        self.apart("loop { take x w choose { out 1 | } }", ("x", (way((0, 0, 1), (0, 0, 1, 0, 0), 1),)))

    def test_do_not_begin_elsewhere(self):
        self.not_apart("take x w tell y", ("x", (way(2),)))
        self.not_apart("take x w tell y", ("x", (way(0, 1, 2),)))
        self.not_apart("take x w", ("y", (way(1),)))
        for word in ("ask x", "number x 5", "copy x y", "mix x y z", "open x z", "wipe x", "tell x", "drop ( x )", "clear x"):
            self.not_apart(word, ("x", (way(1),)))
        # What is opened holds nothing.
        self.not_apart("take x w open y x", ("y", (way(2),)))
        self.not_apart("take x w copy z x wipe x copy y x", ("y", (way(4),)))
        self.apart("take x w copy z x wipe x copy y z", ("y", (way(4),)))

    def test_behind_words_to_which_no_way_leads(self):
        self.not_apart("back take x w", ("x", (way(2),)))
        self.not_apart("loop { } take x w", ("x", (way(2),)))
        self.not_apart("fault f take x w copy y x", ("y", (way(3),)))

    def test_go_on_by_words_that_leave_the_box(self):
        row = "take x w ask y tell x copy y x number z 1 wipe y clear x drop ( y ) take x.a w tell y"
        self.apart(row, ("x", (way(1, 2, 3, 4, 5, 6, 7, 8, 9, 10),)))
        self.apart("take x w choose { tell y | } tell x", ("x", (way(1, (1, 0, 0), 2, 3),)))
        self.apart("take x w choose { tell y | } tell x", ("x", (way(1, 2, 3),)))
        self.apart("take x w loop { choose { | out 1 } }", ("x", (way(1, (1, 0, 0), 1, (1, 0, 0), (1, 0, 0, 1, 0), 2),)))
        self.apart("take x w risk f tell y", ("x", (way(1, 2, 3),)))

    def test_do_not_go_on_by_words_that_take_away(self):
        for word in ("take x u", "ask x", "number x 5", "copy x y", "copy x x", "mix x x y", "open x x", "wipe x",
                     "drop ( y x )"):
            self.not_apart("take x w " + word, ("x", (way(1, 2),)))
        self.not_apart("take x.a w clear x", ("x.a", (way(1, 2),)))
        self.not_apart("take x w back", ("x", (way(1, 2),)))
        self.not_apart("take x w fault f", ("x", (way(1, 2),)))

    def test_end_where_the_run_may_end_or_leave_it(self):
        self.apart("take x w back", ("x", (way(1),)))
        self.apart("take x w fault f", ("x", (way(1),)))
        self.apart("take x w risk f wipe x", ("x", (way(1),)))
        self.apart("take x w drop ( y x )", ("x", (way(1),)))
        self.apart("take x w", ("x", (way(1),)))
        self.apart("take x w risk f risk g", ("x", (way(1, 2),)))

    def test_do_not_end_elsewhere(self):
        for word in ("drop ( y )", "tell x", "ask y", "ask x", "wipe x", "choose { | }", "loop { }", "clear x", "number y 0"):
            self.not_apart("take x w " + word, ("x", (way(1),)))
        self.not_apart("take x w loop { out 1 }", ("x", (way(1, (1, 0, 0)),)))

    def test_bent_ways(self):
        row = "take x w choose { tell y ask z | tell y } tell y loop { out 1 }"
        right = way(1, (1, 0, 0), (1, 0, 1), 2, 3, (3, 0, 0), 4)
        self.apart(row, ("x", (right,)))
        for at in range(len(right)):
            self.not_apart(row, ("x", (right[:at] + right[at + 1:],)))
            self.not_apart(row, ("x", (right[:at] + right[at:at + 1] + right[at:],)))
            for other in way(0, 1, (1, 0, 0), (1, 1, 0), 3, 4):
                if other != right[at]:
                    self.not_apart(row, ("x", (right[:at] + (other,) + right[at + 1:],)))
        self.not_apart(row, ("x", (right[::-1],)))
        self.not_apart(row, ("x", ((),)))

    def test_loops(self):
        self.not_apart("take x w loop { }", ("x", (way(1),)))
        self.not_apart("take x w loop { }", ("x", (way(1, 1),)))
        self.not_apart("take x w loop { }", ("x", (way(1, 2),)))
        self.apart("loop { choose { out 1 | take x w } }", ("x", (way(0, (0, 0, 0), (0, 0, 0, 0, 0), 1),)))


class TestApart(ApartCase):

    def test_none(self):
        self.apart("")
        self.apart("take x w")
        # A box without ways, also one that the program doesn't name.
        self.apart("", ("x", ()))
        self.apart("take x w", ("key.low", ()), ("x", ()), ("y", ()))

    def test_ways_of_one_box(self):
        row = "take x w choose { tell x | fault f } tell y"
        one, other = way(1, (1, 0, 0), 2, 3), way(1, (1, 1, 0))
        # They share the choose alone, behind which x is asked.
        self.apart(row, ("x", (one,)))
        self.apart(row, ("x", (one, other)))
        self.apart(row, ("x", (other, one)))
        self.not_apart(row, ("x", (one, one)))
        self.not_apart(row, ("x", (one, other, other)))
        self.not_apart(row.replace("tell x", "ask z"), ("x", (one, other)))

    def test_loops_may_be_shared(self):
        row = "take x w loop { choose { tell x | out 1 | fault f } }"
        one, other = way(1, (1, 0, 0), (1, 0, 0, 1, 0), 2), way(1, (1, 0, 0), (1, 0, 0, 2, 0))
        self.apart(row, ("x", (one, other)))
        self.not_apart(row.replace("tell x", "ask x"), ("x", (one, other)))
        row = "choose { take x w | take x w tell y } loop { choose { tell x | back } }"
        self.not_apart(row, ("x", (way(1, (1, 0, 0), (1, 0, 0, 1, 0)), way((0, 1, 1), 1, (1, 0, 0), (1, 0, 0, 1, 0)))))

    def test_one_way_may_come_to_a_place_twice(self):
        row = "take x w loop { choose { ask y | out 1 } }"
        around = way(1, (1, 0, 0), (1, 0, 0, 0, 0), 1, (1, 0, 0), (1, 0, 0, 1, 0), 2)
        self.apart(row, ("x", (around,)))

    def test_ways_of_two_boxes_may_share(self):
        row = "take x w take y w"
        self.apart(row, ("x", (way(1, 2),)), ("y", (way(2),)))

    def test_boxes_rise(self):
        row = "take x w take y w take x.a w"
        ways = ("x", (way(1, 2, 3),)), ("x.a", (way(3),)), ("y", (way(2, 3),))
        for some in itertools.permutations(ways):
            self.apart(row, *some, right=some == ways)
        self.not_apart(row, ways[0], ways[0])
        self.not_apart(row, ("x", ()), ("x", ()))
        self.not_apart(row, ("y", ()), ("x", ()))
        self.not_apart(row, ("x", ()), ways[0])


class TestOfAnything(unittest.TestCase):

    def test_other_things(self):
        program = main("take x w")
        right = ("x", (way(1),))
        self.assertIs(ways_apart(program, (right,)), True)
        for thing in no_texts() + ["", "@x", deep(20)]:
            self.assertIs(ways_apart(program, thing), thing == () and isinstance(thing, tuple))
            self.assertIs(ways_apart(program, (thing,)), False)
            self.assertIs(ways_apart(program, (right, thing)), False)
            self.assertIs(ways_apart(program, ((thing, ()),)), False)
            self.assertIs(ways_apart(program, (("x", (thing,)),)), False)
            self.assertIs(ways_apart(program, (("x", ((thing,),)),)), False)
            self.assertIs(ways_apart(program, (("x", (way(1) + (thing,),)),)), False)
            if thing != () or not isinstance(thing, tuple):
                self.assertIs(ways_apart(program, (("x", thing),)), False)

    def test_bent_forms(self):
        program = main("take x w")
        for thing in ([("x", (way(1),))], (["x", (way(1),)],), (("x", [way(1)]),), (("x", (list(way(1)),)),),
                      (("x", (way(1),), ()),), (("x",),), ("x", (way(1),)), (("x", way(1)),), (("x", ((["", 1],),)),),
                      (("x", (("", 1),)),)):
            self.assertIs(ways_apart(program, thing), False)

    def test_truths_for_numbers(self):
        self.assertIs(ways_apart(main("take x w"), (("x", ((("", True),),)),)), False)
        self.assertIs(ways_apart(main("choose { take x w risk f }"), (("x", ((("", 0, 0, 1),),)),)), True)
        self.assertIs(ways_apart(main("choose { take x w risk f }"), (("x", ((("", 0, False, 1),),)),)), False)

    def test_boxes_that_are_none(self):
        for box in ("", "X", "x.", ".x", "x.y.z", "take", "x ", "abcdefghi", "@x"):
            self.assertIs(ways_apart(main("take x w"), ((box, ()),)), False)

    def test_programs_with_defs(self):
        for text in ("def d ( ) ( ) { }\nmain { }", "def d ( ) ( ) { }\nmain { take x w }"):
            for thing in no_texts() + ["", (("x", (way(1),)),)]:
                with self.assertRaises(WipeError) as raised:
                    ways_apart(read_program(text), thing)
                self.assertIs(type(raised.exception), NoRow)


class TestByChance(ApartCase):

    def test_walks(self):
        chance = random.Random(81)
        found = {True: 0, False: 0}
        for _ in range(1600):
            program = made_program(chance, most_defs=0, deep=3)
            seen = Seen(program)
            if not seen.whole or not seen.boxes:
                continue
            box = chance.choice(seen.boxes)
            ways = tuple(self.walk(chance, seen, box) for _ in range(chance.randrange(1, 3)))
            right = self.told_anew(seen, ((box, ways),))
            self.assertIs(ways_apart(program, ((box, ways),)), right)
            found[right] += 1
        self.assertGreater(min(found.values()), 50)

    @staticmethod
    def walk(chance, seen, box):
        """A way by chance, that may go wrong at some place."""
        begins = sorted(seen.begins(box)) or sorted(seen.graph)
        walk = [chance.choice(begins)]
        while not seen.ends(walk[-1], box) or chance.randrange(3) == 0:
            follow = seen.goes_on(walk[-1], box)
            if not follow or len(walk) > 30:
                break
            walk.append(chance.choice(follow))
        if chance.randrange(8) == 0:
            walk[chance.randrange(len(walk))] = chance.choice(sorted(seen.graph))
        return tuple(walk)

    def test_told_ways_bent(self):
        chance = random.Random(82)
        bent = {True: 0, False: 0}
        for _ in range(800):
            program = made_program(chance, most_defs=0, deep=3)
            told = wiped(program)
            seen = Seen(program)
            if told[0] != "wiped" or not told[2] or not seen.whole:
                continue
            box, ways = chance.choice(told[2])
            at = chance.randrange(len(ways))
            one = list(ways[at])
            one[chance.randrange(len(one))] = chance.choice(sorted(seen.graph))
            thing = ((box, ways[:at] + (tuple(one),) + ways[at + 1:]),)
            right = self.told_anew(seen, thing)
            self.assertIs(ways_apart(program, thing), right)
            bent[right] += 1
        self.assertGreater(min(bent.values()), 20)


if __name__ == "__main__":
    unittest.main()
