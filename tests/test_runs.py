"""Points [8], [9], [10]: runs; of [2], that nothing handed in is changed and the same is told the same."""

import copy
import random
import unittest

from things import deep, made_program, plain_run
from wipeways.errors import NoAnswer
from wipeways.runs import run
from wipeways.texts import read_program

MANY = 400


def main(text):
    """The program of this main row alone."""
    return read_program("main { " + text + " }")


class RunCase(unittest.TestCase):

    def tells(self, program, answers, due, most=MANY):
        program = program if isinstance(program, tuple) else read_program(program)
        with self.subTest(program=program, answers=answers, most=most):
            self.assertEqual(run(program, answers, most), due)
            self.assertEqual(plain_run(program, answers, most), due)

    def refused(self, program, answers, number, most=MANY):
        program = program if isinstance(program, tuple) else read_program(program)
        with self.subTest(program=program, number=number):
            with self.assertRaises(NoAnswer) as caught:
                run(program, answers, most)
            self.assertIs(type(caught.exception), NoAnswer)
            self.assertEqual(caught.exception.number, number)


class TestWords(RunCase):
    """Each kind of word by itself; a risk at the end makes the run wait, so that what is held is told."""

    def after(self, text, answers, due, told=(), left=()):
        row = main(text + " risk f")
        self.tells(row, answers, ("on", ("", len(row[1]) - 1), len(row[1]) - 1, told, left, due))

    def test_take(self):
        self.after("take x w", (5,), (("x", 5, ("w",)),))
        self.after("take x w", (0,), (("x", 0, ("w",)),))
        self.after("take x w", (9999,), (("x", 9999, ("w",)),))
        self.after("take key.low key", (1,), (("key.low", 1, ("key",)),))
        self.after("take x w take x u", (5, 6), (("x", 6, ("u",)),))

    def test_ask(self):
        self.after("ask x", (5,), (("x", 5, ()),))
        self.after("ask x", (0,), ())
        self.after("ask x", (9999,), (("x", 9999, ()),))
        self.after("take x w ask x", (5, 7), (("x", 7, ()),))
        self.after("take x w ask x", (5, 0), ())

    def test_number(self):
        self.after("number x 7", (), (("x", 7, ()),))
        self.after("number x 0", (), ())
        self.after("number x 9999", (), (("x", 9999, ()),))
        self.after("take x w number x 3", (5,), (("x", 3, ()),))
        self.after("take x w number x 0", (5,), ())

    def test_copy(self):
        self.after("take y w copy x y", (5,), (("x", 5, ("w",)), ("y", 5, ("w",))))
        self.after("take x w copy x y", (5,), ())
        self.after("take x w copy x x", (5,), (("x", 5, ("w",)),))
        self.after("ask y take x w copy x y", (3, 5), (("x", 3, ()), ("y", 3, ())))
        self.after("take y w copy x y wipe y", (0,), (("x", 0, ("w",)),))

    def test_mix(self):
        self.after("ask y ask z mix x y z", (1, 10), (("x", 21, ()), ("y", 1, ()), ("z", 10, ())))
        self.after("ask y ask z mix x y z", (9999, 9999), (
            ("x", (9999 + 2 * 9999) % 10007, ()), ("y", 9999, ()), ("z", 9999, ()),
        ))
        self.after("take y w take z u mix x y z", (1, 2), (
            ("x", 5, ("u", "w")), ("y", 1, ("w",)), ("z", 2, ("u",)),
        ))
        self.after("take y w mix x y z", (1,), (("x", 1, ("w",)), ("y", 1, ("w",))))
        self.after("take z w mix x y z", (1,), (("x", 2, ("w",)), ("z", 1, ("w",))))
        self.after("take x w mix x x x", (4,), (("x", 12, ("w",)),))
        self.after("take x w mix x y z", (4,), ())
        self.after("take x w take y u mix x y x", (4, 1), (("x", 9, ("u", "w")), ("y", 1, ("u",))))
        self.after("number y 9999 number z 4 mix x y z", (), (("y", 9999, ()), ("z", 4, ())))
        self.after("number y 9998 number z 4 mix x y z", (), (("x", 10006, ()), ("y", 9998, ()), ("z", 4, ())))

    def test_worths_rise_each_once(self):
        self.after("take a z take b m take c a mix x a b mix x x c mix x x a", (0, 0, 0), (
            ("a", 0, ("z",)), ("b", 0, ("m",)), ("c", 0, ("a",)), ("x", 0, ("a", "m", "z")),
        ))

    def test_open(self):
        for number in (0, 1, 2, 3, 9998, 9999):
            rest = (("x", 1, ()),) if number % 2 else ()
            self.after("take y w open x y", (number,), rest + (("y", number, ("w",)),))
            self.after("take x w open x x", (number,), rest)
        self.after("number y 9998 number z 4 mix y y z open x y wipe y wipe z", (), ())
        self.after("take x w open x y", (5,), ())

    def test_tell(self):
        self.after("tell x", (), (), told=(0,))
        self.after("ask x tell x tell x number x 3 tell x tell y", (8,), (("x", 3, ()),), told=(8, 8, 3, 0))
        self.after("take x w tell x", (8,), (("x", 8, ("w",)),), told=(8,))
        self.after("number y 9998 number z 4 mix y y z tell y wipe y wipe z", (), (), told=(10006,))

    def test_wipe(self):
        self.after("take x w wipe x tell x", (8,), (), told=(0,))
        self.after("take x w wipe y", (8,), (("x", 8, ("w",)),))
        self.after("take key.a w wipe key", (8,), (("key.a", 8, ("w",)),))

    def test_clear(self):
        text = "take key.a w take key.b w ask key.c ask key take keys.a w take k.key w take ke.y w clear key"
        self.after(text, (1, 2, 3, 4, 5, 6, 7), (
            ("k.key", 6, ("w",)), ("ke.y", 7, ("w",)), ("key", 4, ()), ("keys.a", 5, ("w",)),
        ))
        self.after("take x w clear x", (1,), (("x", 1, ("w",)),))
        self.after("clear x", (), ())
        self.after("take a.b w clear b", (1,), (("a.b", 1, ("w",)),))

    def test_drop(self):
        self.after("take x w drop ( x )", (5,), (), left=((("", 1), "x", ("w",)),))
        self.after("ask x drop ( x )", (5,), ())
        self.after("drop ( x )", (), ())
        self.after("take z w take y u ask x mix z z y drop ( z x y )", (5, 6, 7), (), left=(
            (("", 4), "y", ("u",)), (("", 4), "z", ("u", "w")),
        ))
        self.after("take x w drop ( y ) drop ( x ) drop ( x )", (5,), (), left=((("", 2), "x", ("w",)),))
        self.after("take key.b w take key w drop ( key.b )", (5, 6), (("key", 6, ("w",)),), left=(
            (("", 2), "key.b", ("w",)),
        ))

    def test_held_rises_by_boxes(self):
        self.after("ask b ask a.z ask a ask c.a ask aa", (1, 2, 3, 4, 5), (
            ("a", 3, ()), ("a.z", 2, ()), ("aa", 5, ()), ("b", 1, ()), ("c.a", 4, ()),
        ))


class TestEnds(RunCase):

    def test_a_main_row_without_words_by_no_steps(self):
        for most in (0, 1, 400):
            for answers in ((), (1,), (None,)):
                self.tells(((), ()), answers, ("ended", 0, (), ()), most)
                self.tells("def d ( ) ( ) { tell x }\nmain { }", answers, ("ended", 0, (), ()), most)

    def test_the_end_of_the_main_row(self):
        self.tells(main("tell x"), (), ("ended", 1, (0,), ()))
        self.tells(main("take y w ask x take a u"), (1, 2, 3), (
            "ended", 3, (), ((("", 3), "a", ("u",)), (("", 3), "y", ("w",))),
        ))

    def test_back_in_the_main_row(self):
        self.tells(main("take x w back tell x"), (1,), ("ended", 2, (), ((("", 1), "x", ("w",)),)))
        self.tells(main("back"), (), ("ended", 1, (), ()))
        self.tells(main("loop { ask x choose { back | tell x } }"), (7, 1, 8, 0), ("ended", 8, (7,), ()))
        self.tells(main("take x w choose { back | }"), (1, 0), ("ended", 3, (), ((("", 1, 0, 0), "x", ("w",)),)))
        self.tells(main("take x w choose { back | }"), (1, 1), ("ended", 2, (), ((("", 2), "x", ("w",)),)))

    def test_faults(self):
        self.tells(main("fault f"), (), ("fault", "f", 1, (), ()))
        self.tells(main("take x w take a u tell x fault bad tell x"), (1, 2), (
            "fault", "bad", 4, (1,), ((("", 3), "a", ("u",)), (("", 3), "x", ("w",))),
        ))

    def test_risks_answered_0_and_1(self):
        self.tells(main("take x w risk f wipe x risk g"), (1, 0, 0), ("ended", 4, (), ()))
        self.tells(main("take x w risk f wipe x risk g"), (1, 1), ("fault", "f", 2, (), ((("", 1), "x", ("w",)),)))
        self.tells(main("take x w risk f wipe x risk g"), (1, 0, 1), ("fault", "g", 4, (), ()))


class TestChoicesAndLoops(RunCase):

    def test_each_row_of_a_choose(self):
        program = main("choose { number x 5 | | number x 6 tell x | tell x } tell x")
        for answer, due in ((0, (3, (5,))), (1, (2, (0,))), (2, (4, (6, 6))), (3, (3, (0, 0)))):
            self.tells(program, (answer,), ("ended", *due, ()))

    def test_a_choose_of_one_row_wants_its_answer(self):
        self.tells(main("choose { tell x }"), (), ("on", ("", 0), 0, (), (), ()))
        self.tells(main("choose { tell x }"), (0,), ("ended", 2, (0,), ()))
        self.tells(main("choose { }"), (0,), ("ended", 1, (), ()))

    def test_a_loop_gone_round(self):
        program = main("loop { ask x tell x choose { | out 1 } } tell x")
        self.tells(program, (4, 0, 5, 0, 6, 1), ("ended", 14, (4, 5, 6, 6), ()))
        self.tells(program, (4, 0, 5), ("on", ("", 0, 0, 2), 7, (4, 5), (), (("x", 5, ()),)))

    def test_outs_of_one_to_three_loops(self):
        text = "loop { loop { loop { choose { out 1 | out 2 | out 3 } } number x 1 tell x } number x 2 tell x } tell y"
        self.tells(main(text), (2,), ("ended", 6, (0,), ()))
        self.tells(main(text), (1, 2), ("ended", 13, (2, 0), ()))
        self.tells(main(text), (0, 2), ("ended", 12, (1, 0), ()))
        self.tells(main(text), (0, 1, 2), ("ended", 19, (1, 2, 0), ()))

    def test_loops_without_words(self):
        for most in range(0, 6):
            self.tells(main("loop { }"), (), ("on", ("", 0), most, (), (), ()), most)
            self.tells(main("loop { loop { } }"), (), ("on", ("", 0, 0, 0) if most else ("", 0), most, (), (), ()), most)

    def test_loops_without_a_way_out(self):
        places = (("", 0), ("", 0, 0, 0), ("", 0, 0, 1))
        for most in range(0, 12):
            told = (0,) * (most // 3 + (most % 3 == 2))
            self.tells(main("loop { tell x wipe x }"), (), ("on", places[most % 3], most, told, (), ()), most)
        self.assertEqual(run(main("loop { tell x }"), (), 400)[2], 400)


class TestCalls(RunCase):

    def test_args_go_and_results_come(self):
        program = "def d ( p q ) ( r p ) { mix r p q }\nmain { take x w take y u call d ( x y ) ( a b ) tell a tell b tell x }"
        self.tells(program, (3, 4), ("ended", 7, (11, 3, 0), (
            (("d", 1), "q", ("u",)), (("", 6), "a", ("u", "w")), (("", 6), "b", ("w",)),
        )))

    def test_what_is_held_in_the_def(self):
        program = "def d ( p ) ( r ) { ask x risk f }\nmain { take k w ask z call d ( k ) ( g ) }"
        self.tells(program, (3, 4), ("on", ("d", 0), 3, (), (), (("p", 3, ("w",)),)))
        self.tells(program, (3, 4, 5), ("on", ("d", 1), 4, (), (), (("p", 3, ("w",)), ("x", 5, ()))))
        self.tells(program, (3, 4, 5, 0), ("ended", 5, (), ((("d", 2), "p", ("w",)),)))

    def test_args_hold_nothing_while_the_def_runs_and_behind(self):
        program = "def d ( p ) ( ) { wipe p }\nmain { take x w call d ( x ) ( ) tell x risk f }"
        self.tells(program, (3,), ("on", ("", 3), 4, (0,), (), ()))
        program = "def d ( p ) ( ) { fault f }\nmain { take x w call d ( x ) ( ) }"
        self.tells(program, (3,), ("fault", "f", 3, (), ((("d", 0), "p", ("w",)),)))

    def test_each_call_has_boxes_of_its_own(self):
        program = "def d ( ) ( x ) { tell x ask x }\nmain { ask x call d ( ) ( y ) call d ( ) ( z ) tell x tell y tell z }"
        self.tells(program, (1, 2, 3), ("ended", 10, (0, 0, 1, 2, 3), ()))

    def test_gets_are_written_over(self):
        program = "def d ( ) ( r ) { }\nmain { take g w call d ( ) ( g ) risk f }"
        self.tells(program, (5,), ("on", ("", 2), 2, (), (), ()))
        program = "def d ( ) ( r ) { take r u }\nmain { take g w call d ( ) ( g ) risk f }"
        self.tells(program, (5, 6), ("on", ("", 2), 3, (), (), (("g", 6, ("u",)),)))

    def test_args_and_gets_in_part_the_same(self):
        program = "def d ( p q ) ( q p ) { }\nmain { take x w ask y call d ( x y ) ( x z ) risk f }"
        self.tells(program, (5, 6), ("on", ("", 3), 3, (), (), (("x", 6, ()), ("z", 5, ("w",)))))
        program = "def d ( p q ) ( q p ) { }\nmain { take x w ask y call d ( x y ) ( x y ) risk f }"
        self.tells(program, (5, 6), ("on", ("", 3), 3, (), (), (("x", 6, ()), ("y", 5, ("w",)))))
        program = "def d ( p q ) ( p q ) { }\nmain { take x w ask y call d ( x y ) ( y x ) risk f }"
        self.tells(program, (5, 6), ("on", ("", 3), 3, (), (), (("x", 6, ()), ("y", 5, ("w",)))))

    def test_params_and_results_in_part_the_same(self):
        program = "def d ( p q ) ( q r ) { copy r p }\nmain { take x w take y u call d ( x y ) ( x y ) risk f }"
        self.tells(program, (5, 6), ("on", ("", 3), 4, (), ((("d", 1), "p", ("w",)),), (
            ("x", 6, ("u",)), ("y", 5, ("w",)),
        )))

    def test_a_def_without_words_is_done_with_the_call(self):
        self.tells("def d ( p ) ( ) { }\nmain { take x w call d ( x ) ( ) }", (5,), (
            "ended", 2, (), ((("d", 0), "p", ("w",)),),
        ))
        self.tells("def d ( ) ( ) { }\nmain { call d ( ) ( ) call d ( ) ( ) }", (), ("ended", 2, (), ()))
        self.tells("def d ( ) ( ) { }\nmain { call d ( ) ( ) call d ( ) ( ) }", (), ("on", ("", 1), 1, (), (), ()), 1)

    def test_ends_that_lead_to_ends(self):
        program = (
            "def d ( p ) ( ) { tell p }\ndef e ( p ) ( ) { take x u call d ( p ) ( ) }\n"
            "main { take x w take y v call e ( x ) ( ) }"
        )
        left = ((("d", 1), "p", ("w",)), (("e", 2), "x", ("u",)), (("", 3), "y", ("v",)))
        self.tells(program, (1, 2, 3), ("ended", 6, (1,), left))
        self.tells(program, (1, 2, 3), ("on", ("d", 0), 5, (), (), (("p", 1, ("w",)),)), 5)

    def test_a_call_last_in_a_loop_leads_to_the_loop(self):
        program = "def d ( ) ( ) { back }\nmain { loop { call d ( ) ( ) } }"
        for most, place in ((2, ("d", 0)), (3, ("", 0)), (4, ("", 0, 0, 0)), (5, ("d", 0)), (6, ("", 0))):
            self.tells(program, (), ("on", place, most, (), (), ()), most)

    def test_back_in_a_def_ahead_of_its_end(self):
        program = "def d ( p ) ( p ) { choose { take q u back | } number p 9 }\nmain { ask x call d ( x ) ( x ) tell x }"
        self.tells(program, (4, 0, 5), ("ended", 6, (4,), ((("d", 0, 0, 1), "q", ("u",)),)))
        self.tells(program, (4, 1), ("ended", 5, (9,), ()))

    def test_back_within_loops_of_a_def(self):
        program = "def d ( ) ( x ) { loop { loop { ask x back } } }\nmain { loop { call d ( ) ( y ) tell y out 1 } }"
        self.tells(program, (4,), ("ended", 8, (4,), ()))

    def test_faults_in_a_def_called_by_a_def(self):
        program = (
            "def d ( p ) ( ) { take z u take y u fault bad }\n"
            "def e ( p q ) ( ) { take c v call d ( p ) ( ) tell c }\n"
            "main { take x w take k w take b t loop { call e ( x k ) ( ) } }"
        )
        self.tells(program, (1, 2, 3, 4, 5, 6), ("fault", "bad", 10, (), (
            (("d", 2), "p", ("w",)), (("d", 2), "y", ("u",)), (("d", 2), "z", ("u",)),
            (("e", 1), "c", ("v",)), (("e", 1), "q", ("w",)),
            (("", 3, 0, 0), "b", ("t",)),
        )))

    def test_gets_that_wait_are_left_by_a_fault(self):
        program = "def d ( ) ( r ) { risk f }\nmain { take g w call d ( ) ( g ) }"
        self.tells(program, (1, 1), ("fault", "f", 3, (), ((("", 1), "g", ("w",)),)))
        self.tells(program, (1, 0), ("ended", 3, (), ()))

    def test_what_is_left_in_the_order_of_its_coming(self):
        program = (
            "def d ( p ) ( ) { take a u drop ( p ) }\n"
            "main { take z w take b w drop ( z ) copy y b drop ( y ) call d ( b ) ( ) take c w take a w }"
        )
        self.tells(program, (1, 2, 3, 4, 5), ("ended", 10, (), (
            (("", 2), "z", ("w",)), (("", 4), "y", ("w",)), (("d", 1), "p", ("w",)), (("d", 2), "a", ("u",)),
            (("", 8), "a", ("w",)), (("", 8), "c", ("w",)),
        )))

    def test_left_so_far_is_told_of_a_run_that_goes_on(self):
        program = "def d ( p ) ( ) { }\nmain { take x w call d ( x ) ( ) take y w drop ( y ) risk f }"
        left = ((("d", 0), "p", ("w",)), (("", 3), "y", ("w",)))
        self.tells(program, (1, 2), ("on", ("", 4), 4, (), left, ()))
        self.tells(program, (1, 2), ("on", ("", 2), 2, (), left[:1], ()), 2)


class TestMost(RunCase):

    PROGRAM = "def d ( p ) ( ) { tell p wipe p }\nmain { ask x call d ( x ) ( ) loop { out 1 } fault f }"

    def test_most(self):
        due = (
            ("on", ("", 0), 0, (), (), ()),
            ("on", ("", 1), 1, (), (), (("x", 5, ()),)),
            ("on", ("d", 0), 2, (), (), (("p", 5, ()),)),
            ("on", ("d", 1), 3, (5,), (), (("p", 5, ()),)),
            ("on", ("", 2), 4, (5,), (), ()),
            ("on", ("", 2, 0, 0), 5, (5,), (), ()),
            ("on", ("", 3), 6, (5,), (), ()),
            ("fault", "f", 7, (5,), ()),
        )
        for most in range(0, 20):
            self.tells(self.PROGRAM, (5,), due[min(most, 7)], most)

    def test_just_as_many_steps_as_the_run_has(self):
        for many in range(1, 30):
            program = main("tell x " * (many - 1) + "tell x")
            self.tells(program, (), ("ended", many, (0,) * many, ()), many)
            self.tells(program, (), ("ended", many, (0,) * many, ()), many + 1)
            self.tells(program, (), ("on", ("", many - 1), many - 1, (0,) * (many - 1), (), ()), many - 1)


class TestAnswers(RunCase):

    def test_no_answer_left(self):
        for text, place in (
            ("take x w", ("", 0)), ("ask x", ("", 0)), ("choose { | }", ("", 0)), ("risk f", ("", 0)),
            ("tell y ask x", ("", 1)), ("loop { choose { ask x } }", ("", 0, 0, 0)),
        ):
            told = run(main(text), (), MANY)
            self.assertEqual(told[:2], ("on", place))
        self.tells("def d ( ) ( ) { risk f }\nmain { call d ( ) ( ) }", (), ("on", ("d", 0), 1, (), (), ()))

    def wrong(self, beyond):
        return [
            beyond, beyond + 1, -1, -9999, 10 ** 5000, -10 ** 5000, True, False, None, "", "0", "1", "x",
            (), (0,), [], [0], {}, {0: 0}, deep(20), [deep(20)], ((), [{}]),
        ]

    def test_answers_that_cannot_be_given(self):
        for text, beyond in (
            ("take x w", 10000), ("ask x", 10000), ("risk f", 2), ("choose { }", 1), ("choose { | }", 2),
            ("choose { | tell x | }", 3), ("choose { | | | }", 4),
        ):
            for answer in self.wrong(beyond):
                self.refused(main(text), (answer,), 0)
                self.refused(main(text), (answer,), 0, 1)
                self.refused(main("ask a tell a ask b " + text), (1, 2, answer), 2)
                self.refused(main("ask a ask b " + text), (1, 2, answer, None, 5), 2)
                self.refused(main("loop { " + text + " }"), (0, 0, 0, answer), 3)
                self.refused("def d ( ) ( ) { " + text + " }\nmain { ask x call d ( ) ( ) }", (0, answer), 1)
            for answer in {0, 1, beyond - 1}:
                if answer < beyond:
                    self.assertIn(run(main(text), (answer,), MANY)[0], ("ended", "fault"))

    def test_the_number_of_the_first_one(self):
        for many in range(0, 5):
            answers = (7,) * many + (None, -1, "x")
            self.refused(main("ask a ask b ask c ask d ask e"), answers, many)
        self.refused(main("ask a choose { ask b | tell a } risk f"), (7, 1, 2), 2)
        self.refused(main("ask a choose { ask b | tell a } risk f"), (7, 0, 2, 2), 3)

    def test_the_number_is_an_int(self):
        with self.assertRaises(NoAnswer) as caught:
            run(main("ask x ask x"), (1, True), 2)
        self.assertIs(type(caught.exception.number), int)

    def test_just_where_the_run_wants_them(self):
        program = main("tell x ask x tell x ask y")
        for most in (0, 1):
            self.assertEqual(run(program, (None,), most)[:3], ("on", ("", most), most))
        self.refused(program, (None,), 0, 2)
        for most in (2, 3):
            self.assertEqual(run(program, (5, None), most)[:3], ("on", ("", most), most))
        self.refused(program, (5, None), 1, 4)

    def test_answers_behind_the_last_one_that_is_wanted(self):
        for more in ((), (1,), (None,), ("x", [], {}), (-1,) * 300, (10 ** 5000,)):
            self.assertEqual(run(main("ask x tell x"), (5,) + more, MANY), ("ended", 2, (5,), ()))
            self.assertEqual(run(main("risk f ask x"), (1,) + more, MANY), ("fault", "f", 1, (), ()))
            self.assertEqual(run(main("tell x"), more, MANY), ("ended", 1, (0,), ()))
            self.assertEqual(run(main("loop { }"), more, 10), ("on", ("", 0), 10, (), (), ()))

    def test_three_hundred_answers(self):
        told = run(main("loop { ask x tell x }"), tuple(range(300)), MANY)
        self.assertEqual(told[:3], ("on", ("", 0, 0, 0), 400))
        self.assertEqual(told[3], tuple(range(133)))
        told = run(main("loop { ask x }"), tuple(range(150)), MANY)
        self.assertEqual(told, ("on", ("", 0, 0, 0), 301, (), (), (("x", 149, ()),)))


class TestByChance(RunCase):

    def givable(self, chance, program, many):
        """Answers, each of which can be given."""
        answers = []
        for _ in range(many):
            tries = [chance.randrange(10000), 3, 2, 1, 0]
            if chance.random() < 0.6:
                tries = [chance.randrange(2), 0]
            for answer in tries:
                try:
                    run(program, tuple(answers) + (answer,), 60)
                except NoAnswer:
                    continue
                answers.append(answer)
                break
        return tuple(answers)

    def test_as_told_anew(self):
        chance = random.Random(8)
        kinds = {}
        for _ in range(500):
            program = made_program(chance, most_defs=3, deep=4)
            answers = self.givable(chance, program, chance.randrange(12))
            kept = copy.deepcopy((program, answers))
            for most in (0, 1, 2, 3, 5, 8, 13, 60):
                told = run(program, answers, most)
                self.assertEqual(told, plain_run(program, answers, most))
                self.assertEqual(told, run(program, answers, most))
                kinds[told[0]] = kinds.get(told[0], 0) + 1
            self.assertEqual((program, answers), kept)
        self.assertGreater(min(kinds["on"], kinds["ended"], kinds["fault"]), 100)

    def test_all_parts_are_plain(self):
        chance = random.Random(9)
        for _ in range(100):
            program = made_program(chance)
            self.plain(run(program, self.givable(chance, program, 6), 30))

    def plain(self, told):
        if type(told) is tuple:
            for part in told:
                self.plain(part)
        else:
            self.assertIn(type(told), (str, int))


if __name__ == "__main__":
    unittest.main()
