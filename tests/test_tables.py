"""Points [11], [12], [13]: sheets of defs and main rows; of [2], that nothing handed in is changed."""

import copy
import random
import unittest

from things import Explored, made_program
from wipeways.tables import sheet_of
from wipeways.texts import read_program


def pairs(text):
    """Pairs told as "box source, box source"; None where no way leads."""
    if text is None:
        return None
    return tuple(tuple(pair.split(" ")) for pair in text.split(", ") if pair)


class SheetCase(unittest.TestCase):

    def tells(self, text, name, notes, table):
        program = read_program(text)
        with self.subTest(text=text, name=name):
            told = sheet_of(program, name)
            self.assertEqual(told[0], name)
            self.assertEqual([pair for place, pair in told[1]], [pairs(note) for note in notes])
            self.assertEqual(told[2], table)
            self.assertEqual(told, Explored(program, name).sheet(name))

    def main(self, row, notes, table):
        self.tells("main { " + row + " }", "", notes, table)

    def table(self, text, name, table):
        program = read_program(text)
        with self.subTest(text=text, name=name):
            self.assertEqual(sheet_of(program, name)[2], table)
            self.assertEqual(Explored(program, name).sheet(name)[2], table)


class TestForm(SheetCase):

    def test_a_sheet_whole(self):
        program = read_program(
            "def d ( p ) ( r ) { copy r p risk f wipe p }\nmain { take x w choose { call d ( x ) ( y ) | wipe x } }"
        )
        self.assertEqual(sheet_of(program, "d"), (
            "d",
            (
                (("d", 0), (("p", "@p"),)),
                (("d", 1), (("p", "@p"), ("r", "@p"))),
                (("d", 2), (("p", "@p"), ("r", "@p"))),
                (("d", 3), (("r", "@p"),)),
            ),
            (True, True, (("@p", 0),), ("@p",)),
        ))
        self.assertEqual(sheet_of(program, ""), (
            "",
            (
                (("", 0), ()),
                (("", 1), (("x", "w"),)),
                (("", 1, 0, 0), (("x", "w"),)),
                (("", 1, 1, 0), (("x", "w"),)),
                (("", 2), (("y", "w"),)),
            ),
            (True, True, (), ("w",)),
        ))

    def test_rows_without_words(self):
        self.assertEqual(sheet_of(((), ()), ""), ("", ((("", 0), ()),), (True, False, (), ())))
        self.tells("def d ( p key.low ) ( ) { }\nmain { }", "d", ["key.low @key.low, p @p"], (
            True, False, (), ("@key.low", "@p"),
        ))
        self.tells("def d ( p q ) ( q p ) { }\nmain { }", "d", ["p @p, q @q"], (
            True, False, (("@p", 1), ("@q", 0)), (),
        ))

    def test_all_parts_are_plain(self):
        chance = random.Random(11)
        for _ in range(50):
            program = made_program(chance)
            for name in [one[0] for one in program[0]] + [""]:
                self.plain(sheet_of(program, name))

    def plain(self, told):
        if type(told) is tuple:
            for part in told:
                self.plain(part)
        else:
            self.assertIn(type(told), (str, int, bool, type(None)))


class TestWords(SheetCase):

    def test_take(self):
        self.main("take x w", ["", "x w"], (True, False, (), ("w",)))
        self.main("take x w take x u", ["", "x w", "x u"], (True, False, (), ("u",)))
        self.main("take x w take y w", ["", "x w", "x w, y w"], (True, False, (), ("w",)))

    def test_words_that_put_in_nothing_kept(self):
        for word in ("ask x", "number x 5", "open x x", "open x y", "wipe x"):
            self.main("take x w " + word, ["", "x w", ""], (True, False, (), ()))
            self.main("take y w " + word, ["", "y w", "y w"], (True, False, (), ("w",)))

    def test_copy(self):
        self.main("take y w copy x y", ["", "y w", "x w, y w"], (True, False, (), ("w",)))
        self.main("take x w copy x y", ["", "x w", ""], (True, False, (), ()))
        self.main("take x w copy x x", ["", "x w", "x w"], (True, False, (), ("w",)))

    def test_mix(self):
        self.main("take y w take z u mix x y z", ["", "y w", "y w, z u", "x u, x w, y w, z u"], (
            True, False, (), ("u", "w"),
        ))
        self.main("take x w mix x y z", ["", "x w", ""], (True, False, (), ()))
        self.main("take x w mix x x x", ["", "x w", "x w"], (True, False, (), ("w",)))
        self.main("take x w mix x y x", ["", "x w", "x w"], (True, False, (), ("w",)))
        self.main("take x w take y u mix x x y", ["", "x w", "x w, y u", "x u, x w, y u"], (
            True, False, (), ("u", "w"),
        ))

    def test_open_leaves_what_it_opens(self):
        self.main("take y w open x y", ["", "y w", "y w"], (True, False, (), ("w",)))
        self.main("take y w open x y copy z x wipe y", ["", "y w", "y w", "y w", ""], (True, False, (), ()))

    def test_tell(self):
        self.main("take x w tell x", ["", "x w", "x w"], (True, False, (), ("w",)))

    def test_clear(self):
        self.main("take key.a w take key w take keys.a w clear key", [
            "", "key.a w", "key w, key.a w", "key w, key.a w, keys.a w", "key w, keys.a w",
        ], (True, False, (), ("w",)))

    def test_drop(self):
        self.main("take x w take y u drop ( x ) wipe y", ["", "x w", "x w, y u", "y u", ""], (True, False, (), ("w",)))
        self.main("take x w wipe x drop ( x y )", ["", "x w", "", ""], (True, False, (), ()))
        # What is dropped on a way that goes on for ever is left, too.
        self.main("take x w drop ( x ) loop { }", ["", "x w", "", None], (False, False, (), ("w",)))

    def test_back_and_fault(self):
        self.main("take x w back wipe x", ["", "x w", None, None], (True, False, (), ("w",)))
        self.main("take x w fault f wipe x", ["", "x w", None, None], (False, True, (), ("w",)))
        self.main("back", ["", None], (True, False, (), ()))
        self.main("fault f", ["", None], (False, True, (), ()))
        self.main("take x w wipe x fault f", ["", "x w", "", None], (False, True, (), ()))

    def test_risk(self):
        self.main("take x w risk f wipe x", ["", "x w", "x w", ""], (True, True, (), ("w",)))
        self.main("take x w wipe x risk f", ["", "x w", "", ""], (True, True, (), ()))

    def test_pairs_rise(self):
        self.main("take z a take b z take b.c m mix a z b mix a a b.c", [
            "", "z a", "b z, z a", "b z, b.c m, z a", "a a, a z, b z, b.c m, z a", "a a, a m, a z, b z, b.c m, z a",
        ], (True, False, (), ("a", "m", "z")))


class TestChoicesAndLoops(SheetCase):

    def test_choices(self):
        self.main("choose { take x w | | take x u | wipe x } tell x", [
            "", "", "", "", "x u, x w", "x u, x w",
        ], (True, False, (), ("u", "w")))
        self.main("take x w choose { wipe x | wipe x }", ["", "x w", "x w", "x w", ""], (True, False, (), ()))
        self.main("take x w choose { back | fault f } wipe x", ["", "x w", "x w", "x w", None, None], (
            True, True, (), ("w",),
        ))

    def test_places_that_no_way_leads_to(self):
        self.main("back choose { tell x | } loop { out 1 }", ["", None, None, None, None, None], (True, False, (), ()))
        self.main("loop { out 1 tell x } tell x", ["", "", None, "", ""], (True, False, (), ()))
        self.main("loop { loop { out 2 } tell x }", ["", "", "", None, ""], (True, False, (), ()))

    def test_loops_for_ever(self):
        self.main("loop { }", ["", None], (False, False, (), ()))
        self.main("take x w loop { } wipe x", ["", "x w", None, None], (False, False, (), ()))
        self.main("take x w loop { tell x take y u }", [
            "", "x w, y u", "x w, y u", "x w, y u", None,
        ], (False, False, (), ()))

    def test_a_loop_gone_round_more_than_once(self):
        # What is in a comes to d in the third round.
        self.main("take a w loop { copy d c copy c b copy b a choose { | out 1 } } wipe a wipe b wipe c", [
            "", "a w, b w, c w, d w", "a w, b w, c w, d w", "a w, b w, c w, d w", "a w, b w, c w, d w",
            "a w, b w, c w, d w", "a w, b w, c w, d w",
            "a w, b w, c w, d w", "b w, c w, d w", "c w, d w", "d w",
        ], (True, False, (), ("w",)))

    def test_wiped_in_each_round(self):
        self.main("loop { take x w choose { wipe x | wipe x out 1 } }", ["", "", "x w", "x w", "x w", "", ""], (
            True, False, (), (),
        ))


class TestDefs(SheetCase):

    def test_params_are_sources(self):
        self.tells("def d ( p key.low ) ( r ) { mix r p key.low take p w }\nmain { }", "d", [
            "key.low @key.low, p @p",
            "key.low @key.low, p @p, r @key.low, r @p",
            "key.low @key.low, p w, r @key.low, r @p",
        ], (True, False, (("@key.low", 0), ("@p", 0)), ("@key.low", "w")))

    def test_flows(self):
        self.table("def d ( p ) ( a b c ) { copy a p copy c p wipe p }\nmain { }", "d", (
            True, False, (("@p", 0), ("@p", 2)), (),
        ))
        self.table("def d ( p ) ( p ) { }\nmain { }", "d", (True, False, (("@p", 0),), ()))
        self.table("def d ( ) ( r ) { take r w }\nmain { }", "d", (True, False, (("w", 0),), ()))
        self.table("def d ( p ) ( r q ) { take q w mix r q p wipe p }\nmain { }", "d", (
            True, False, (("@p", 0), ("w", 0), ("w", 1)), (),
        ))
        self.table("def d ( p ) ( p ) { open p p }\nmain { }", "d", (True, False, (), ()))
        self.table("def d ( p q ) ( r ) { choose { copy r p | copy r q } wipe p wipe q }\nmain { }", "d", (
            True, False, (("@p", 0), ("@q", 0)), (),
        ))

    def test_flows_rise_by_source_ahead_of_number(self):
        self.table("def d ( z a ) ( q r ) { mix q z a copy r a take a b mix q q a wipe z wipe a }\nmain { }", "d", (
            True, False, (("@a", 0), ("@a", 1), ("@z", 0), ("b", 0)), (),
        ))

    def test_stays(self):
        self.table("def d ( p q ) ( q ) { }\nmain { }", "d", (True, False, (("@q", 0),), ("@p",)))
        self.table("def d ( p ) ( ) { drop ( p ) }\nmain { }", "d", (True, False, (), ("@p",)))
        self.table("def d ( p ) ( ) { drop ( p ) loop { } }\nmain { }", "d", (False, False, (), ("@p",)))
        self.table("def d ( p ) ( p ) { risk f }\nmain { }", "d", (True, True, (("@p", 0),), ("@p",)))
        self.table("def d ( p ) ( p ) { fault f }\nmain { }", "d", (False, True, (), ("@p",)))
        self.table("def d ( z a ) ( ) { take b m }\nmain { }", "d", (True, False, (), ("@a", "@z", "m")))

    def test_back_and_end(self):
        self.table("def d ( p ) ( p ) { choose { take q w back | } wipe p }\nmain { }", "d", (
            True, False, (("@p", 0),), ("w",),
        ))
        self.table("def d ( p ) ( ) { loop { } }\nmain { }", "d", (False, False, (), ()))
        self.table("def d ( p ) ( ) { loop { wipe p back } }\nmain { }", "d", (True, False, (), ()))


class TestCalls(SheetCase):

    def test_args_are_taken_away(self):
        self.tells("def d ( p ) ( ) { wipe p }\nmain { take x w call d ( x ) ( ) }", "", ["", "x w", ""], (
            True, False, (), (),
        ))

    def test_what_the_flows_bring(self):
        self.tells("def d ( p q ) ( r p ) { copy r q wipe q }\nmain { take x w take y u call d ( x y ) ( a b ) }", "", [
            "", "x w", "x w, y u", "a u, b w",
        ], (True, False, (), ("u", "w")))
        self.tells("def d ( ) ( r ) { take r w }\nmain { call d ( ) ( x ) }", "", ["", "x w"], (True, False, (), ("w",)))

    def test_a_param_handed_back_at_several_results(self):
        self.tells("def d ( p ) ( a b p ) { copy a p copy b p }\nmain { take x w call d ( x ) ( x y z ) }", "", [
            "", "x w", "x w, y w, z w",
        ], (True, False, (), ("w",)))

    def test_gets_hold_nothing_else(self):
        self.tells("def d ( ) ( r ) { }\nmain { take x w take y u call d ( ) ( x ) wipe y }", "", [
            "", "x w", "x w, y u", "y u", "",
        ], (True, False, (), ()))

    def test_args_and_gets_in_part_the_same(self):
        self.tells("def d ( p q ) ( q p ) { }\nmain { take x w take y u call d ( x y ) ( x y ) }", "", [
            "", "x w", "x w, y u", "x u, y w",
        ], (True, False, (), ("u", "w")))

    def test_a_def_that_may_fault(self):
        text = "def d ( p ) ( ) { wipe p risk f }\nmain { take x w take y u call d ( x ) ( ) wipe y }"
        self.tells(text, "", ["", "x w", "x w, y u", "y u", ""], (True, True, (), ("u",)))
        # Gets hold what they held till the def comes back.
        text = "def d ( ) ( r ) { risk f }\nmain { take x w call d ( ) ( x ) }"
        self.tells(text, "", ["", "x w", ""], (True, True, (), ("w",)))
        text = "def d ( p ) ( r ) { wipe p risk f }\nmain { take x w call d ( x ) ( x ) }"
        self.tells(text, "", ["", "x w", ""], (True, True, (), ()))

    def test_a_def_that_never_comes_back(self):
        text = "def d ( ) ( ) { loop { } }\nmain { take x w call d ( ) ( ) wipe x }"
        self.tells(text, "", ["", "x w", None, None], (False, False, (), ()))
        text = "def d ( p ) ( ) { fault f }\nmain { take x w take y u call d ( x ) ( ) wipe x }"
        self.tells(text, "", ["", "x w", "x w, y u", None, None], (False, True, (), ("u", "w")))

    def test_stays_of_a_def(self):
        text = "def d ( p q ) ( ) { wipe q take z v }\nmain { take x w take y u call d ( x y ) ( ) }"
        self.tells(text, "", ["", "x w", "x w, y u", ""], (True, False, (), ("v", "w")))
        text = "def d ( p q ) ( ) { wipe q take z v }\nmain { take x w take y u call d ( y x ) ( ) }"
        self.tells(text, "", ["", "x w", "x w, y u", ""], (True, False, (), ("u", "v")))
        text = "def d ( p ) ( ) { }\nmain { call d ( x ) ( ) }"
        self.tells(text, "", ["", ""], (True, False, (), ()))

    def test_a_def_called_by_a_def(self):
        text = (
            "def d ( p ) ( r ) { copy r p risk f wipe p }\n"
            "def e ( a b ) ( c ) { take k v call d ( a ) ( c ) wipe k wipe b }\n"
            "main { take x w take y u call e ( x y ) ( z ) wipe z }"
        )
        self.tells(text, "e", [
            "a @a, b @b", "a @a, b @b, k v", "b @b, c @a, k v", "b @b, c @a", "c @a",
        ], (True, True, (("@a", 0),), ("@a", "@b", "v")))
        self.tells(text, "", ["", "x w", "x w, y u", "z w", ""], (True, True, (), ("u", "v", "w")))

    def test_a_fault_in_a_def_called_by_a_def(self):
        text = (
            "def d ( ) ( ) { fault f }\ndef e ( p ) ( ) { call d ( ) ( ) wipe p }\n"
            "main { take x w take y u call e ( x ) ( ) wipe y }"
        )
        self.tells(text, "e", ["p @p", None, None], (False, True, (), ("@p",)))
        self.tells(text, "", ["", "x w", "x w, y u", None, None], (False, True, (), ("u", "w")))

    def test_worths_of_the_def_and_of_the_caller_are_the_same(self):
        text = "def d ( p ) ( p ) { take q w mix p p q wipe q }\nmain { take x w call d ( x ) ( x ) }"
        self.tells(text, "", ["", "x w", "x w"], (True, False, (), ("w",)))
        self.table(text, "d", (True, False, (("@p", 0), ("w", 0)), ()))

    def test_calls_in_loops(self):
        text = (
            "def next ( a b c ) ( b c a ) { }\n"
            "main { take x w loop { call next ( x y z ) ( x y z ) choose { | out 1 } } wipe x wipe y }"
        )
        self.tells(text, "", [
            "", "x w, y w, z w", "x w, y w, z w", "x w, y w, z w", "x w, y w, z w",
            "x w, y w, z w", "y w, z w", "z w",
        ], (True, False, (), ("w",)))


class TestByChance(unittest.TestCase):

    def test_as_found_by_going_all_ways(self):
        chance = random.Random(12)
        whole = 0
        for _ in range(500):
            program = made_program(chance, most_defs=4, deep=4)
            kept = copy.deepcopy(program)
            for name in [one[0] for one in program[0]] + [""]:
                told = sheet_of(program, name)
                found = Explored(program, name, most=400)
                if found.whole:
                    whole += 1
                    self.assertEqual(told, found.sheet(name))
                self.assertEqual(told, sheet_of(program, name))
            self.assertEqual(program, kept)
        self.assertGreater(whole, 900)

    def test_it_does_not_hang_on_what_is_not_called(self):
        chance = random.Random(13)
        for _ in range(200):
            defs, row = made_program(chance, most_defs=4, deep=3)
            more = ("zz", ("p",), ("q",), (("take", "q", "w"), ("fault", "f")))
            for at, one in enumerate(defs):
                told = sheet_of((defs, row), one[0])
                self.assertEqual(sheet_of((defs, ()), one[0]), told)
                self.assertEqual(sheet_of((defs, (("fault", "f"),)), one[0]), told)
                self.assertEqual(sheet_of((defs[:at + 1], ()), one[0]), told)
                self.assertEqual(sheet_of(((more,) + defs, row), one[0]), told)
                called = self.called(defs, one[0])
                alone = tuple(other for other in defs if other[0] in called)
                self.assertEqual(sheet_of((alone, ()), one[0]), told)
            self.assertEqual(sheet_of((defs + (more,), row), ""), sheet_of((defs, row), ""))

    def called(self, defs, name):
        """The def and those that it calls, by calls within calls too."""
        rows = {one[0]: one[3] for one in defs}
        found, due = set(), [name]
        while due:
            name = due.pop()
            found.add(name)
            due += [other for other in rows if "'call', '" + other + "'" in repr(rows[name])]
        return found


if __name__ == "__main__":
    unittest.main()
