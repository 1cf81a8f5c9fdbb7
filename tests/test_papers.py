"""Point [13]: papers and whether a program is let by; of [3], that this is so just where no run leaves anything."""

import copy
import random
import unittest

from things import Explored, made_program, some_run_leaves
from wipeways.papers import is_let_by, paper_of
from wipeways.tables import sheet_of
from wipeways.texts import read_program
from wipeways.words import is_program

LET_BY = (
    "main { }",
    "main { ask x tell x }",
    "main { take x w wipe x }",
    "main { take x w open y x tell y number x 0 }",
    "main { take x w loop { } }",
    "main { loop { take x w choose { wipe x out 1 | } } }",
    "main { take key.a w take key.b w clear key }",
    "main { take x w wipe x fault f }",
    "main { take x w wipe x drop ( x ) }",
    "main { back take x w }",
    "main { fault f drop ( x ) take x w }",
    "def d ( p ) ( ) { wipe p }\nmain { take x w call d ( x ) ( ) }",
    # A def may leave what is never handed to it.
    "def d ( p ) ( ) { }\nmain { ask x call d ( x ) ( ) }",
    "def d ( ) ( ) { take x w }\nmain { }",
    "def d ( ) ( ) { fault f }\nmain { take x w wipe x call d ( ) ( ) }",
    "def d ( ) ( ) { loop { } }\nmain { take x w call d ( ) ( ) take y w }",
    "def d ( p ) ( p ) { }\nmain { take x w call d ( x ) ( x ) wipe x }",
    "def d ( ) ( r ) { }\nmain { take x w call d ( ) ( x ) }",
)

NOT_LET_BY = (
    "main { take x w }",
    "main { take x w copy y x wipe x }",
    "main { take x w mix y z x wipe x }",
    "main { take x w open y x }",
    "main { take x w choose { wipe x | } }",
    "main { take x w loop { choose { out 1 | wipe x out 1 } } }",
    "main { take key w clear key }",
    "main { take keys.a w clear key }",
    "main { take x w back wipe x }",
    # Through a fault alone.
    "main { take x w risk f wipe x }",
    "main { take x w fault f wipe x }",
    "main { take x w choose { fault f | wipe x } }",
    "def d ( ) ( ) { risk f }\nmain { take x w call d ( ) ( ) wipe x }",
    "def d ( ) ( ) { fault f }\ndef e ( ) ( ) { call d ( ) ( ) }\nmain { take x w call e ( ) ( ) wipe x }",
    "def d ( p ) ( ) { risk f wipe p }\nmain { take x w call d ( x ) ( ) }",
    "def d ( ) ( r ) { risk f }\nmain { take x w call d ( ) ( x ) wipe x }",
    # Through a drop alone.
    "main { take x w drop ( x ) }",
    "main { take x w drop ( x y ) loop { } }",
    "def d ( p ) ( ) { drop ( p ) }\nmain { take x w call d ( x ) ( ) }",
    # Through a def that leaves its param, or what it takes itself.
    "def d ( p ) ( ) { }\nmain { take x w call d ( x ) ( ) }",
    "def d ( p q ) ( p ) { }\nmain { take x w call d ( y x ) ( y ) }",
    "def d ( ) ( ) { take x w }\nmain { call d ( ) ( ) }",
    "def d ( p ) ( p ) { }\nmain { take x w call d ( x ) ( x ) }",
    "def d ( p ) ( ) { }\ndef e ( p ) ( ) { call d ( p ) ( ) }\nmain { take x w call e ( x ) ( ) }",
)


def names_of(program):
    return [one[0] for one in program[0]] + [""]


class TestPaper(unittest.TestCase):

    def test_the_sheets_of_all_defs_and_of_the_main_row(self):
        chance = random.Random(21)
        seen = set()
        for _ in range(300):
            program = made_program(chance, most_defs=6, deep=3)
            kept = copy.deepcopy(program)
            paper = paper_of(program)
            self.assertIs(type(paper), tuple)
            self.assertEqual(paper, tuple(sheet_of(program, name) for name in names_of(program)))
            self.assertEqual(paper, paper_of(program))
            self.assertEqual(program, kept)
            seen.add(len(program[0]))
        self.assertEqual(seen, {0, 1, 2, 3, 4, 5, 6})

    def test_a_paper_whole(self):
        program = read_program("def d ( p ) ( ) { wipe p }\nmain { take x w call d ( x ) ( ) }")
        self.assertEqual(paper_of(program), (
            ("d", ((("d", 0), (("p", "@p"),)), (("d", 1), ())), (True, False, (), ())),
            ("", ((("", 0), ()), (("", 1), (("x", "w"),)), (("", 2), ())), (True, False, (), ())),
        ))

    def test_as_found_by_going_all_ways(self):
        for text in LET_BY + NOT_LET_BY:
            program = read_program(text)
            with self.subTest(text=text):
                found = tuple(Explored(program, name).sheet(name) for name in names_of(program))
                self.assertEqual(paper_of(program), found)


class TestLetBy(unittest.TestCase):

    def test_let_by(self):
        for text in LET_BY:
            with self.subTest(text=text):
                self.assertIs(is_let_by(read_program(text)), True)

    def test_not_let_by(self):
        for text in NOT_LET_BY:
            with self.subTest(text=text):
                self.assertIs(is_let_by(read_program(text)), False)

    def test_just_where_no_run_leaves_anything(self):
        for text in LET_BY + NOT_LET_BY:
            program = read_program(text)
            with self.subTest(text=text):
                self.assertEqual(is_let_by(program), not some_run_leaves(program, 7))

    def test_by_chance(self):
        chance = random.Random(22)
        kinds = {True: 0, False: 0}
        for _ in range(500):
            program = made_program(chance, most_defs=3, deep=4)
            found = Explored(program, "", most=400)
            if found.whole:
                kinds[is_let_by(program)] += 1
                self.assertEqual(is_let_by(program), found.fewest is None)
        self.assertGreater(min(kinds.values()), 50)

    def test_with_other_defs_that_are_not_called(self):
        more = ("more", ("p",), (), (("take", "q", "w"), ("risk", "f")))
        for text in LET_BY + NOT_LET_BY:
            defs, row = read_program(text)
            self.assertIs(is_let_by(((more,) + defs, row)), is_let_by((defs, row)))
            self.assertIs(is_let_by((defs + (more,), row)), is_let_by((defs, row)))


# Letters turned about, so that what came first comes last.
TURNED = str.maketrans("abcdefghijklmnopqrstuvwxyz", "zyxwvutsrqponmlkjihgfedcba")


def turned_word(word):
    if word[0] == "choose":
        return (word[0], tuple(turned_row(row) for row in word[1]))
    if word[0] == "loop":
        return (word[0], turned_row(word[1]))
    return (word[0],) + turned(word[1:])


def turned_row(row):
    return tuple(turned_word(word) for word in row)


def turned(thing):
    """The thing with all its texts turned."""
    if isinstance(thing, tuple):
        return tuple(turned(part) for part in thing)
    return thing.translate(TURNED) if isinstance(thing, str) else thing


def rising(things):
    return None if things is None else tuple(sorted(things))


def turned_sheet(sheet):
    name, notes, (back, faults, flows, stays) = turned(sheet)
    notes = tuple((place, rising(pairs)) for place, pairs in notes)
    return (name, notes, (back, faults, rising(flows), rising(stays)))


class TestTurned(unittest.TestCase):

    def one(self, program):
        defs, row = program
        other = (tuple(turned(one[:3]) + (turned_row(one[3]),) for one in defs), turned_row(row))
        self.assertIs(is_program(other), True)
        self.assertEqual(paper_of(other), tuple(turned_sheet(sheet) for sheet in paper_of(program)))
        self.assertIs(is_let_by(other), is_let_by(program))

    def test_texts(self):
        for text in LET_BY + NOT_LET_BY:
            self.one(read_program(text))

    def test_by_chance(self):
        chance = random.Random(23)
        for _ in range(300):
            self.one(made_program(chance, most_defs=6, deep=3))

    def test_defs_in_another_order(self):
        first = ("a", ("p",), ("q",), (("copy", "q", "p"), ("wipe", "p")))
        second = ("b", ("p",), (), (("risk", "f"), ("wipe", "p")))
        row = (("take", "x", "w"), ("call", "a", ("x",), ("y",)), ("call", "b", ("y",), ()))
        one, other = paper_of(((first, second), row)), paper_of(((second, first), row))
        self.assertEqual(one, (other[1], other[0], other[2]))


if __name__ == "__main__":
    unittest.main()
