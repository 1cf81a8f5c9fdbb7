"""Point [7]: programs written and read again; of [2], what "of anything" means."""

import copy
import random
import unittest

from things import deep, made_program, no_texts
from wipeways.errors import NoText, WipeError
from wipeways.texts import read_program, show_program, show_row
from wipeways.words import is_program

# Each kind of word, and how it is written.
WRITTEN = (
    (("take", "x", "w"), "take x w"),
    (("take", "key.low", "abcdefgh"), "take key.low abcdefgh"),
    (("ask", "x"), "ask x"),
    (("number", "x", 5), "number x 5"),
    (("number", "x", 0), "number x 0"),
    (("number", "x", 10), "number x 10"),
    (("number", "x", 100), "number x 100"),
    (("number", "key.low", 9999), "number key.low 9999"),
    (("copy", "x", "y"), "copy x y"),
    (("mix", "x", "y", "z.z"), "mix x y z.z"),
    (("open", "x", "y"), "open x y"),
    (("tell", "x"), "tell x"),
    (("wipe", "key.low"), "wipe key.low"),
    (("clear", "key"), "clear key"),
    (("drop", ("x", "y")), "drop ( x y )"),
    (("drop", ("key.low",)), "drop ( key.low )"),
    (("choose", ((),)), "choose { }"),
    (("choose", ((), ())), "choose { | }"),
    (("choose", ((), (), (), ())), "choose { | | | }"),
    (("choose", ((("tell", "x"),), (("ask", "y"), ("wipe", "y")))), "choose { tell x | ask y wipe y }"),
    (("choose", ((), (("tell", "x"),), ())), "choose { | tell x | }"),
    (("choose", ((("tell", "x"),), ())), "choose { tell x | }"),
    (("choose", ((("back",),),)), "choose { back }"),
    (("loop", ()), "loop { }"),
    (("loop", (("out", 1),)), "loop { out 1 }"),
    (("loop", (("loop", (("out", 2), ("out", 1))), ("out", 1))), "loop { loop { out 2 out 1 } out 1 }"),
    (("loop", (("choose", ((("out", 1),), (("loop", ()),))),)), "loop { choose { out 1 | loop { } } }"),
    (("risk", "f"), "risk f"),
    (("fault", "f"), "fault f"),
    (("call", "two", ("x", "y"), ("z",)), "call two ( x y ) ( z )"),
    (("call", "none", (), ()), "call none ( ) ( )"),
    (("back",), "back"),
)

TWO = ("two", ("a", "b.c"), ("a",), (("wipe", "b.c"),))
NONE = ("none", (), (), ())
HEADS = "def two ( a b.c ) ( a ) { wipe b.c }\ndef none ( ) ( ) { }\n"

# Right texts; each one is broken in many ways below.
TEXTS = (
    "main { }",
    "main { tell x }",
    "main { take x w choose { copy y x | loop { out 1 } } drop ( x.a y.a ) number x 10 back }",
    "def d ( x y ) ( z ) { mix z x y clear key risk f fault g }\nmain { call d ( a b ) ( c ) }",
    "def d ( ) ( ) { }\ndef e ( x ) ( ) { call d ( ) ( ) open x x wipe x }\nmain { ask q call e ( q ) ( ) }",
)


class TestShow(unittest.TestCase):

    def test_each_kind_of_word(self):
        for word, text in WRITTEN:
            with self.subTest(text=text):
                self.assertEqual(show_row((word,)), text)
                self.assertEqual(show_row((word, word)), text + " " + text)
                self.assertEqual(show_row((("loop", (word,)),)), "loop { " + text + " }")
                self.assertEqual(show_program(((), (word,))), "main { " + text + " }")
                self.assertEqual(
                    show_program(((("d", ("p",), (), (word,)),), (word, word))),
                    "def d ( p ) ( ) { " + text + " }\nmain { " + text + " " + text + " }",
                )

    def test_rows_without_words(self):
        self.assertEqual(show_row(()), "")
        self.assertEqual(show_program(((), ())), "main { }")
        self.assertEqual(show_program((((NONE,)), ())), "def none ( ) ( ) { }\nmain { }")

    def test_all_words_in_one_row(self):
        row = tuple(word for word, text in WRITTEN)
        text = " ".join(text for word, text in WRITTEN)
        self.assertEqual(show_row(row), text)

    def test_defs(self):
        one = ("d", ("x", "key.low", "y", "z"), ("z", "y", "x", "q.r"), (("tell", "x"),))
        self.assertEqual(
            show_program(((one, NONE), (("back",),))),
            "def d ( x key.low y z ) ( z y x q.r ) { tell x }\ndef none ( ) ( ) { }\nmain { back }",
        )

    def test_any_defs_and_row_put_together(self):
        call = ("call", "lacks", ("x",), ())
        for program, text in (
            (((), (call,)), "main { call lacks ( x ) ( ) }"),
            (((("d", (), (), (("call", "d", (), ()),)),), ()), "def d ( ) ( ) { call d ( ) ( ) }\nmain { }"),
            (((NONE, NONE), ()), "def none ( ) ( ) { }\ndef none ( ) ( ) { }\nmain { }"),
            (((NONE,), (("call", "none", ("x",), ("y",)),)), "def none ( ) ( ) { }\nmain { call none ( x ) ( y ) }"),
            (((NONE,) * 7, ()), "def none ( ) ( ) { }\n" * 7 + "main { }"),
        ):
            with self.subTest(text=text):
                self.assertEqual(show_program(program), text)
                with self.assertRaises(NoText):
                    read_program(text)


def kinds_in(thing):
    """The kinds of all parts, parts of parts too."""
    if isinstance(thing, tuple):
        return {tuple}.union(*[kinds_in(part) for part in thing])
    return {type(thing)}


class TestReadAgain(unittest.TestCase):

    def again(self, program):
        text = show_program(program)
        with self.subTest(text=text):
            self.assertIs(is_program(program), True)
            told = read_program(text)
            self.assertEqual(told, program)
            self.assertLessEqual(kinds_in(told), {tuple, str, int})
            self.assertEqual(read_program(text), told)
            self.assertEqual(show_program(told), text)

    def test_each_kind_of_word(self):
        for word, text in WRITTEN:
            self.again(((TWO, NONE), (word,)))
            self.again(((TWO, NONE, ("d", ("x",), ("x", "y"), (word, word))), ()))
            self.assertEqual(read_program(HEADS + "main { " + text + " }"), ((TWO, NONE), (word,)))
            self.assertEqual(
                read_program(HEADS + "main { loop { } " + text + " choose { | " + text + " } }"),
                ((TWO, NONE), (("loop", ()), word, ("choose", ((), (word,))))),
            )

    def test_all_words_in_one_row(self):
        row = tuple(word for word, text in WRITTEN)
        self.again(((TWO, NONE), row))
        self.again(((TWO, NONE, ("d", (), (), row)), row))

    def test_each_number(self):
        for number in list(range(0, 1200)) + [1999, 2000, 4321, 9000, 9998, 9999]:
            program = ((), (("number", "x", number),))
            self.assertEqual(show_program(program), "main { number x " + str(number) + " }")
            self.assertEqual(read_program(show_program(program)), program)

    def test_none_to_six_defs(self):
        for many in range(0, 7):
            defs = tuple((name, (name,), (name + ".x",), (("wipe", name),)) for name in "abcdef"[:many])
            self.again((defs, (("back",),)))
            self.again((defs, tuple(("call", one[0], ("x",), ("y",)) for one in defs)))

    def test_params_and_results(self):
        boxes = ("x", "y.z", "z", "key.low")
        for params in range(0, 5):
            for results in range(0, 5):
                one = ("d", boxes[:params], boxes[4 - results:], ())
                self.again(((one,), (("call", "d", boxes[4 - params:], boxes[:results]),)))

    def test_six_deep_and_sixty_words(self):
        row = (("tell", "x"),) * 12
        for around in range(5):
            row = (("loop", row),) if around % 2 else (("choose", (row, ())), ("back",))
        self.again(((), row + (("number", "x", 1234),) * 40))

    def test_by_chance(self):
        chance = random.Random(7)
        for _ in range(300):
            self.again(made_program(chance, most_defs=6, deep=5))

    def test_the_right_texts(self):
        for text in TEXTS:
            self.assertEqual(show_program(read_program(text)), text)


class NoTextCase(unittest.TestCase):

    def refused(self, thing):
        with self.subTest(thing=repr(thing)[:200] if not isinstance(thing, int) else "an int"):
            with self.assertRaises(NoText) as caught:
                read_program(thing)
            self.assertIs(type(caught.exception), NoText)
            self.assertIsInstance(caught.exception, WipeError)


class TestRefused(NoTextCase):

    def test_things_that_are_no_texts(self):
        for thing in no_texts() + [["main { }"], ("main { }",), {"main { }": 1}, ((), ()), deep(20)]:
            self.refused(thing)

    def test_the_empty_text_and_blanks(self):
        for text in ("", " ", "  ", "\n", "\n\n", " \n", "\t", "main", "main ", "main {", "main { ", "{ }", "}", "{"):
            self.refused(text)

    def test_blanks_twice_at_the_ends_and_left_out(self):
        for text in TEXTS:
            for at, sign in enumerate(text):
                if sign == " ":
                    self.refused(text[:at] + " " + text[at:])
                    self.refused(text[:at] + text[at + 1:])
                    self.refused(text[:at] + "\t" + text[at + 1:])
                if sign == "\n":
                    self.refused(text[:at] + " " + text[at:])
                    self.refused(text[:at + 1] + " " + text[at + 1:])
            self.refused(" " + text)
            self.refused(text + " ")
            self.refused(text + "\t")

    def test_line_ends_more_less_and_at_the_end(self):
        for text in TEXTS:
            for at, sign in enumerate(text):
                if sign == "\n":
                    for other in ("\n\n", "", " ", "\r\n", "\r", "\n\r", "\x0b", "\x0c", "\u2028", "\x85"):
                        self.refused(text[:at] + other + text[at + 1:])
                if sign == " ":
                    self.refused(text[:at] + "\n" + text[at + 1:])
            for end in ("\n", "\n\n", "\r", "\r\n", "\n "):
                self.refused(text + end)
                self.refused(end + text)

    def test_each_mark_left_out_or_twice(self):
        for text in TEXTS:
            lines = [line.split(" ") for line in text.split("\n")]
            for number, marks in enumerate(lines):
                for at in range(len(marks)):
                    # With a stroke more or less it is another program; names and words are told elsewhere.
                    if marks[at] in ("{", "}", "(", ")", "def", "main"):
                        for changed in (marks[:at] + marks[at + 1:], marks[:at] + [marks[at]] + marks[at:]):
                            whole = lines[:number] + [changed] + lines[number + 1:]
                            self.refused("\n".join(" ".join(line) for line in whole))

    def test_other_signs_in_place_of_marks(self):
        for text in TEXTS:
            for at, sign in enumerate(text):
                if sign in "{}()|":
                    for other in "[]<>;/,{}()|!_Xx0":
                        if other != sign:
                            self.refused(text[:at] + other + text[at + 1:])

    def test_signs_put_in(self):
        for text in TEXTS:
            for at in range(len(text) + 1):
                for sign in "{}()|,;@_~-#\\'\"A\r\t\u00e4\u0430\x00":
                    self.refused(text[:at] + sign + text[at:])

    def test_cut_off(self):
        for text in TEXTS:
            for at in range(len(text)):
                self.refused(text[:at])
                if at > 0 and text[at - 1] != "\n":
                    self.refused(text[at:])

    def test_great_letters(self):
        for text in TEXTS:
            self.refused(text.upper())
            for at, sign in enumerate(text):
                if sign.islower():
                    self.refused(text[:at] + sign.upper() + text[at + 1:])

    def test_numbers(self):
        wrong = [
            "00", "01", "05", "000", "0000", "0010", "00001", "10000", "12345", "99999", "-1", "-0", "+1", "1.0", "1e3",
            "0x1", "1_0", "", "x", "(", ")", "}", "\u0665", "\u00b2", "\uff11", "1" * 4400, "0" * 4400, "9" * 6000,
            "-" + "1" * 4400, "1" * 100000, "True", "none", "5 5",
        ]
        for number in wrong:
            self.refused("main { number x " + number + " }")
            self.refused("main { tell x number x " + number + " tell x }")
            self.refused("main { loop { out " + number + " } }")
            self.refused("def d ( ) ( ) { number x " + number + " }\nmain { }")
        self.assertEqual(read_program("main { number x 9999 }"), ((), (("number", "x", 9999),)))

    def test_words_that_lack_a_part_or_have_one_more(self):
        for word, text in WRITTEN:
            marks = text.split(" ")
            self.refused(HEADS + "main { " + " ".join(marks + ["x"]) + " }")
            self.refused(HEADS + "main { " + " ".join(marks + ["5"]) + " }")
            self.refused(HEADS + "main { " + " ".join(marks + ["("]) + " }")
            if len(marks) > 1:
                self.refused(HEADS + "main { " + " ".join(marks[:-1]) + " }")
                self.refused(HEADS + "main { " + " ".join(marks[:-1]) + " tell x }")
                self.refused(HEADS + "main { " + " ".join(marks[1:]) + " }")

    def test_words_of_the_tongue_for_names(self):
        tongue = "take ask number copy mix open tell wipe clear drop choose loop out risk fault call back def main"
        for word in tongue.split(" ") + ["X", "abcdefghi", "x1", "x.", ".x", "@x"]:
            for form in (
                "main { take ! w }", "main { take x ! }", "main { ask ! }", "main { number ! 5 }", "main { copy ! x }",
                "main { copy x ! }", "main { mix ! x x }", "main { mix x ! x }", "main { mix x x ! }",
                "main { open ! x }", "main { open x ! }", "main { tell ! }", "main { wipe ! }", "main { clear ! }",
                "main { drop ( ! ) }", "main { drop ( x ! ) }", "main { risk ! }", "main { fault ! }",
                "main { tell x.! }", "main { tell !.x }", "main { call ! ( ) ( ) }",
                "def ! ( ) ( ) { }\nmain { }", "def d ( ! ) ( ) { }\nmain { }", "def d ( ) ( ! ) { }\nmain { }",
                "def d ( x ) ( ) { }\nmain { call d ( ! ) ( ) }", "def d ( ) ( x ) { }\nmain { call d ( ) ( ! ) }",
            ):
                self.refused(form.replace("!", word))
        self.refused("main { clear key.low }")
        self.refused("main { take x key.low }")
        self.refused("main { risk key.low }")

    def test_words_that_are_none(self):
        for word in ("x", "put x", "takes x w", "if", "lay 0 0", "fetch 0 0", "clean 0", "end", "def", "main", "main { }"):
            self.refused("main { " + word + " }")
            self.refused("main { tell x " + word + " tell x }")

    def test_boxes_twice_or_none(self):
        for text in (
            "main { drop ( ) }", "main { drop ( x x ) }", "main { drop ( x y x ) }",
            "def d ( x x ) ( ) { }\nmain { }", "def d ( ) ( x x ) { }\nmain { }",
            "def d ( a b ) ( ) { }\nmain { call d ( x x ) ( ) }", "def d ( ) ( a b ) { }\nmain { call d ( ) ( x x ) }",
            "def d ( a b c d e ) ( ) { }\nmain { }", "def d ( ) ( a b c d e ) { }\nmain { }",
        ):
            self.refused(text)

    def test_rows_in_words(self):
        for text in (
            "main { choose { | | | | } }", "main { choose { tell x | tell x | tell x | tell x | tell x } }",
            "main { | }", "main { tell x | tell y }", "main { loop { | } }", "main { loop { tell x | } }",
            "main { choose }", "main { loop }", "main { choose tell x }", "main { loop tell x }",
            "main { choose ( tell x ) }", "main { choose { loop { | } } }", "main { loop { choose { } | } }",
            "def d ( ) ( ) { | }\nmain { }",
        ):
            self.refused(text)

    def test_outs_too_far(self):
        for text in (
            "main { out 1 }", "main { loop { out 0 } }", "main { loop { out 2 } }", "main { loop { } out 1 }",
            "main { choose { out 1 } }", "main { loop { loop { out 3 } } }", "main { loop { loop { } out 2 } }",
            "main { loop { choose { out 2 } } }", "def d ( ) ( ) { out 1 }\nmain { loop { call d ( ) ( ) } }",
            "main { loop { out 9999 } }",
        ):
            self.refused(text)

    def test_main_rows_and_defs(self):
        one = "def d ( ) ( ) { }"
        for text in (
            one, "main { }\nmain { }", "main { }\n" + one, one + "\nmain { }\n" + one, "main { }\n" + one + "\nmain { }",
            one + "\n" + one + "\nmain { }", one + " main { }", "main { } main { }", "main { main { } }",
            "main { " + one + " }", one + "\n\nmain { }", "def d ( ) ( ) { }\ndef e ( ) ( ) { }",
            "def d ( ) { }\nmain { }", "def d { }\nmain { }", "def ( ) ( ) { }\nmain { }", "def d ( ) ( ) ( ) { }\nmain { }",
            "def d ( ) ( )\nmain { }", "d ( ) ( ) { }\nmain { }", "main d { }", "main ( ) ( ) { }", "main { } x",
            "def d ( ) ( ) { } x\nmain { }", "tell x", "main tell x",
        ):
            self.refused(text)

    def test_calls(self):
        for text in (
            "main { call d ( ) ( ) }",
            "def d ( ) ( ) { call d ( ) ( ) }\nmain { }",
            "def d ( ) ( ) { call e ( ) ( ) }\ndef e ( ) ( ) { }\nmain { }",
            "def d ( ) ( ) { }\nmain { call e ( ) ( ) }",
            "def d ( x ) ( ) { }\nmain { call d ( ) ( ) }",
            "def d ( x ) ( ) { }\nmain { call d ( x y ) ( ) }",
            "def d ( ) ( x ) { }\nmain { call d ( ) ( ) }",
            "def d ( ) ( x ) { }\nmain { call d ( x ) ( ) }",
            "def d ( ) ( ) { }\nmain { call d }",
            "def d ( ) ( ) { }\nmain { call d ( ) }",
            "def d ( ) ( ) { }\nmain { call d ( ) ( ) ( ) }",
            "def d ( ) ( ) { }\nmain { call ( ) ( ) }",
        ):
            self.refused(text)

    def test_seven_defs(self):
        lines = ["def " + name + " ( ) ( ) { }" for name in "abcdefg"]
        self.refused("\n".join(lines + ["main { }"]))
        self.assertEqual(len(read_program("\n".join(lines[:6] + ["main { }"]))[0]), 6)

    def test_great_texts_that_are_none(self):
        for text in (
            "main { " + "loop { " * 900, "main { " + "choose { " * 700, "main { " + "} " * 3000, "x" * 6500, " " * 6500,
            "main { " + "loop { " * 900 + "} " * 900, "main { " + "loop { " * 900 + "} " * 901 + "x",
            "main { " + "loop { " * 40000, "main { drop ( " + "x " * 3000 + ") }", "( " * 3000, "\n" * 6500,
            "main { " + "loop { " * 5000 + "back x " + "} " * 5000 + "}",
        ):
            self.refused(text)


class TestKept(unittest.TestCase):

    def test_nothing_is_changed_and_the_same_is_told(self):
        things = no_texts()
        kept = copy.deepcopy(things)
        for thing in things:
            with self.assertRaises(NoText):
                read_program(thing)
        self.assertEqual(things, kept)
        program = ((TWO, NONE), tuple(word for word, text in WRITTEN))
        kept = copy.deepcopy(program)
        self.assertEqual(show_program(program), show_program(program))
        self.assertEqual(show_row(program[1]), show_row(program[1]))
        self.assertEqual(program, kept)


if __name__ == "__main__":
    unittest.main()
