"""Points [16], [17]: defs put in place; of [3], that a program is let by just when it is with its defs put in place."""

import copy
import random
import unittest

from things import Explored, left_of, made_program, named_by, names_in, told_of
from wipeways.errors import TooLong, WipeError
from wipeways.inplace import in_place
from wipeways.names import is_name
from wipeways.papers import is_let_by
from wipeways.runs import run
from wipeways.texts import read_program, show_program
from wipeways.words import is_program, words_in

PROGRAMS = (
    "main { }",
    "main { take x w back tell x }",
    "def d ( ) ( ) { tell x }\nmain { tell x }",
    "def d ( ) ( ) { }\nmain { call d ( ) ( ) }",
    "def d ( p ) ( r ) { copy r p tell p }\nmain { take x w call d ( x ) ( y ) tell y }",
    # Params and results in part the same, and args and gets.
    "def d ( p q ) ( q p ) { }\nmain { ask a take b w call d ( a b ) ( a b ) tell a tell b }",
    "def d ( p q ) ( r p ) { mix r p q }\nmain { take x w ask y call d ( x y ) ( y z ) tell y tell z tell x }",
    "def d ( p q ) ( q ) { }\nmain { take x w ask y call d ( y x ) ( x ) tell x }",
    # What the gets held is written over, what args held is gone.
    "def d ( ) ( r ) { }\nmain { take x w call d ( ) ( x ) tell x }",
    "def d ( p ) ( ) { wipe p }\nmain { take x w call d ( x ) ( ) tell x }",
    # Backs in loops and choices, at the end, ahead of other words.
    "def d ( p ) ( p ) { loop { choose { back | loop { choose { out 1 | out 2 | back } } } } tell p }\n"
    "main { take x w call d ( x ) ( x ) tell x }",
    "def d ( p ) ( ) { tell p back }\nmain { take x w call d ( x ) ( ) }",
    "def d ( p ) ( p ) { back wipe p }\nmain { take x w call d ( x ) ( x ) tell x }",
    "def d ( p ) ( p ) { choose { back | wipe p back | number p 5 } }\nmain { take x w call d ( x ) ( x ) tell x }",
    # Records, cleared; the box of that name is none of them.
    "def d ( k k.a ) ( k.a k ) { clear k }\nmain { take x w take y u call d ( x y ) ( x y ) tell x tell y }",
    "def d ( k.a l.a ) ( ) { clear k tell l.a }\nmain { take k.a w take l.a w call d ( k.a l.a ) ( ) clear k }",
    "def d ( ) ( ) { clear k }\nmain { take k.a w call d ( ) ( ) tell k.a wipe k.a }",
    # Defs that fault, drop, never come back.
    "def d ( p ) ( ) { fault f }\nmain { take x w call d ( x ) ( ) tell x }",
    "def d ( p ) ( p ) { risk g }\nmain { take x w take y u call d ( x ) ( x ) risk f tell x }",
    "def d ( p ) ( ) { drop ( p ) ask q drop ( q ) }\nmain { take x w call d ( x ) ( ) }",
    "def d ( ) ( ) { loop { } }\nmain { take x w call d ( ) ( ) tell x }",
    "def d ( p ) ( ) { loop { wipe p ask q } }\nmain { take x w call d ( x ) ( ) tell x }",
    # A def that is called again starts with nothing in its boxes.
    "def d ( p ) ( r ) { tell q copy q p copy r q tell r }\n"
    "main { loop { choose { take x w | ask x | out 1 } call d ( x ) ( y ) tell y } }",
    # Calls in choices and loops, in defs that call others.
    "def d ( p ) ( p ) { choose { back | tell p } }\n"
    "def e ( q p ) ( p ) { loop { choose { call d ( q ) ( p ) out 1 | call d ( p ) ( q ) } } drop ( q ) }\n"
    "def h ( ) ( a b ) { take a w take c u call e ( a c ) ( b ) call d ( b ) ( a ) }\n"
    "main { loop { call h ( ) ( x y ) choose { | out 1 | call e ( x y ) ( y ) } } wipe x wipe y }",
    # Six defs, each of which calls all ahead of it in a row.
    "def a ( ) ( ) { ask x tell x }\ndef b ( ) ( ) { call a ( ) ( ) }\ndef c ( ) ( ) { call b ( ) ( ) }\n"
    "def d ( ) ( ) { call c ( ) ( ) risk f }\ndef e ( ) ( ) { call d ( ) ( ) }\ndef h ( ) ( ) { call e ( ) ( ) }\n"
    "main { take x w call h ( ) ( ) tell x wipe x }",
)

# What a fresh name is written by here, as long as it isn't known: a sign that no name has.
UNKNOWN = "?"


class Wanted:
    """The main row that a program is to have with its defs put in place, with unknown names for fresh ones."""

    def __init__(self, program):
        self.defs = {one[0]: one for one in program[0]}
        self.calls = 0
        self.row = self.placed(program[1], lambda name: name, lambda loops: [("back",)], 0)

    def placed(self, row, new, back, loops):
        """The words in the stead of those of the row: new tells names, back what to do within so many loops."""
        words = []
        for word in row:
            if word[0] == "back":
                words += back(loops)
            elif word[0] == "call":
                words.append(self.call(word, new))
            elif word[0] == "loop":
                words.append(("loop", self.placed(word[1], new, back, loops + 1)))
            elif word[0] == "choose":
                words.append(("choose", tuple(self.placed(inner, new, back, loops) for inner in word[1])))
            else:
                words.append(self.named(word, new))
        return tuple(words)

    @staticmethod
    def box(box, new):
        return ".".join([new(box.split(".")[0])] + box.split(".")[1:])

    def named(self, word, new):
        kind, parts = word[0], list(word[1:])
        if kind == "drop":
            return (kind, tuple(self.box(box, new) for box in parts[0]))
        many = {"take": 1, "copy": 2, "mix": 3, "open": 2}.get(kind, 0 if kind in ("out", "risk", "fault") else 1)
        return (kind, *[self.box(part, new) if at < many else part for at, part in enumerate(parts)])

    def call(self, word, outer):
        name, params, results, row = self.defs[word[1]]
        self.calls += 1
        here = f"{UNKNOWN}{self.calls}"

        def new(name):
            return here + name

        def back(loops):
            words = [("copy", self.box(get, outer), self.box(one, new)) for get, one in zip(word[3], results)]
            words += [("wipe", self.box(one, new)) for one in results]
            # The order of what is dropped isn't promised: it is made rising, by the names of the def.
            others = sorted((set(boxes_named(row)) | set(params)) - set(results))
            words += [("drop", tuple(self.box(one, new) for one in others))] * (len(others) > 0)
            return words + [("out", loops + 1)]

        words = [("copy", self.box(one, new), self.box(arg, outer)) for one, arg in zip(params, word[2])]
        words += [("wipe", self.box(arg, outer)) for arg in word[2]]
        return ("loop", tuple(words) + self.placed(row, new, back, 0) + tuple(back(0)))


def boxes_named(row):
    """All boxes that the words of a row name, also in rows in them."""
    for word in row:
        yield from named_by(word)
        for inner in {"choose": word[-1], "loop": word[1:]}.get(word[0], ()):
            yield from boxes_named(inner)


def marks_of(thing):
    """What a row is made of, one behind another, boxes in parts; the form is told by brackets."""
    if isinstance(thing, tuple):
        return ["("] + [mark for part in thing for mark in marks_of(part)] + [")"]
    return thing.split(".") if isinstance(thing, str) else [thing]


class InPlaceCase(unittest.TestCase):

    def right(self, program):
        """Sees that the program is put in place as is told; returns what it becomes."""
        kept = copy.deepcopy(program)
        placed = in_place(program)
        self.assertEqual(program, kept)
        self.assertEqual(placed, in_place(program))
        self.assertIs(is_program(placed), True)
        self.assertEqual(placed[0], ())
        wanted = marks_of(Wanted(program).row)
        told = marks_of(placed[1])
        self.assertEqual(len(told), len(wanted))
        fresh = {}
        for want, mark in zip(wanted, told):
            if isinstance(want, str) and want.startswith(UNKNOWN):
                self.assertEqual(fresh.setdefault(want, mark), mark)
            else:
                self.assertEqual(want, mark)
        self.are_fresh(program, list(fresh.values()))
        return placed

    def are_fresh(self, program, names):
        self.assertEqual(len(set(names)), len(names))
        for name in names:
            self.assertTrue(is_name(name), name)
        self.assertEqual(set(names) & names_in(program), set())

    def runs_alike(self, program, placed, answers):
        """Sees that the program runs by these answers as it does where its defs are put in place."""
        one = run(program, answers, 300)
        other = run(placed, answers, 6000)
        if one[0] == "on" and one[2] == 300:
            self.assertEqual(told_of(other)[:len(told_of(one))], told_of(one))
            return
        self.assertEqual(one[0], other[0])
        self.assertEqual(told_of(one), told_of(other))
        if one[0] == "fault":
            self.assertEqual(one[1], other[1])
        # What is left is left by other words, but the same worths are.
        self.assertEqual(sorted(worths for _, _, worths in left_of(one)), sorted(w for _, _, w in left_of(other)))


class TestInPlace(InPlaceCase):

    def test_a_call_whole(self):
        program = read_program("def d ( p k.a ) ( r ) { clear k mix r p k.b back }\nmain { call d ( x y ) ( z ) tell z }")
        ((loop, row), tell) = self.right(program)[1]
        p, k, r = row[0][1], row[1][1][:-2], row[5][1]
        back = (("copy", "z", r), ("wipe", r), ("drop", (k + ".a", k + ".b", p)), ("out", 1))
        self.assertEqual((loop, tell), ("loop", ("tell", "z")))
        self.assertEqual(row, (
            ("copy", p, "x"), ("copy", k + ".a", "y"), ("wipe", "x"), ("wipe", "y"),
            ("clear", k), ("mix", r, p, k + ".b"), *back, *back,
        ))

    def test_a_call_of_nothing(self):
        program = read_program("def d ( ) ( ) { }\nmain { call d ( ) ( ) }")
        self.assertEqual(in_place(program), ((), (("loop", (("out", 1),)),)))

    def test_no_drop_where_all_boxes_are_results(self):
        program = read_program("def d ( p ) ( p ) { tell p }\nmain { call d ( x ) ( y ) }")
        self.assertNotIn("drop", marks_of(self.right(program)))

    def test_backs_lead_out_of_just_that_loop(self):
        program = read_program(
            "def d ( ) ( ) { loop { choose { back | loop { back } } } }\n"
            "def e ( ) ( ) { loop { call d ( ) ( ) back } }\nmain { loop { call e ( ) ( ) } }"
        )
        inner = ("loop", (("loop", (("choose", ((("out", 2),), (("loop", (("out", 3),)),))),)), ("out", 1)))
        outer = ("loop", (("loop", (inner, ("out", 2))), ("out", 1)))
        self.assertEqual(in_place(program), ((), (("loop", (outer,)),)))

    def test_without_calls_the_main_row_stays(self):
        for text in PROGRAMS[:3]:
            program = read_program(text)
            self.assertEqual(in_place(program), ((), program[1]))

    def test_programs(self):
        for text in PROGRAMS:
            with self.subTest(text=text):
                program = read_program(text)
                placed = self.right(program)
                self.assertEqual(read_program(show_program(placed)), placed)
                # In place twice is in place once.
                self.assertEqual(in_place(placed), placed)


class TestFresh(InPlaceCase):

    def test_names_that_the_program_has_by_chance(self):
        program = read_program("def d ( p ) ( r ) { copy r p }\nmain { call d ( x ) ( x ) call d ( x ) ( x ) }")
        taken = []
        for _ in range(6):
            placed = in_place(program)
            fresh = sorted(names_in(placed) - names_in(program))
            self.assertEqual(len(fresh), 4)
            taken += fresh
            # Each name that was fresh stands somewhere now: as a box, a worth, a fault, behind a dot, in a record,
            # and among the names of defs, their params and their boxes.
            a, b, c, e = fresh
            words = (("take", a, b), ("risk", c), ("tell", "x." + e), ("clear", taken[0]), ("wipe", b))
            program = (program[0] + ((c, (a,), (e,), (("wipe", taken[-1] + ".x"),)),), program[1] + words)
            program = (program[0][:6], program[1])
            self.assertTrue(is_program(program))
            self.right(program)

    def test_a_program_in_place_with_calls_again(self):
        program = read_program("def d ( p ) ( r ) { copy r p }\nmain { call d ( x ) ( x ) }")
        again = (program[0], in_place(program)[1] + program[1])
        self.assertTrue(is_program(again))
        self.right(again)

    def test_names_of_defs_that_are_not_called(self):
        program = read_program("def d ( p ) ( ) { }\nmain { call d ( x ) ( ) }")
        fresh = sorted(names_in(in_place(program)) - names_in(program))
        for name in fresh:
            for one in ((name, (), (), ()), ("e", (name,), (), ()), ("e", (), ("x." + name,), ()),
                        ("e", (), (), (("take", "x", name),)), ("e", (), (), (("fault", name),))):
                with self.subTest(one=one):
                    self.right((program[0] + (one,), program[1]))


class TestTooLong(unittest.TestCase):

    def refused(self, program):
        self.assertTrue(is_program(program))
        with self.assertRaises(WipeError) as raised:
            in_place(program)
        self.assertIs(type(raised.exception), TooLong)

    def test_three_hundred_words_and_one_more(self):
        # Each call becomes a loop, seven words, a drop and an out: ten.
        one = ("d", (), (), (("tell", "x"),) * 7)
        row = (("call", "d", (), ()),) * 30
        placed = in_place(((one,), row))
        self.assertEqual(words_in(placed[1]), 300)
        self.assertEqual(in_place((placed[0] + (one,), placed[1])), placed)
        self.refused(((one,), row + (("tell", "x"),)))
        self.refused(((one,), row[1:] + (("choose", ((("loop", row[:1]),),)),)))
        self.assertEqual(words_in(in_place(((one,), row[1:] + (("loop", (("tell", "x"),) * 9),)))[1]), 300)

    def test_with_backs_results_and_params(self):
        # A loop; two copies and two wipes; six words, where each of two backs becomes six: a copy and a wipe for
        # each of two results, one drop, one out; at the end six: 1 + 4 + 4 + 12 + 6.
        one = ("d", ("p", "q"), ("r", "q"), (("tell", "x"), ("choose", ((("back",),), (("back",), ("tell", "p"))))) +
               (("tell", "r"),))
        row = (("call", "d", ("a", "b"), ("a", "c")),) * 11
        self.assertEqual(words_in(in_place(((one,), row))[1]), 297)
        self.assertEqual(words_in(in_place(((one,), row + (("back",),) * 3))[1]), 300)
        self.refused(((one,), row + (("back",),) * 4))

    def test_defs_that_call_defs(self):
        inner = ("d", (), (), (("tell", "x"),) * 5)
        outer = ("e", (), (), (("call", "d", (), ()),) * 6)
        # Eight words each, six of them, a loop and an out: fifty.
        row = (("call", "e", (), ()),) * 6
        self.assertEqual(words_in(in_place(((inner, outer), row))[1]), 300)
        self.refused(((inner, outer), row + (("back",),)))

    def test_far_too_long_is_refused_at_once(self):
        defs = [("a", (), (), (("tell", "x"),) * 9)]
        for name in ("b", "c", "d", "e", "h"):
            defs.append((name, (), (), (("call", defs[-1][0], (), ()),) * 9))
        self.refused((tuple(defs), (("call", "h", (), ()),) * 9))

    def test_what_is_not_called_is_not_counted(self):
        defs = [("a", (), (), (("tell", "x"),) * 9)]
        for name in ("b", "c", "d", "e", "h"):
            defs.append((name, (), (), (("call", defs[-1][0], (), ()),) * 9))
        self.assertEqual(in_place((tuple(defs), ())), ((), ()))


class TestAlike(InPlaceCase):

    def test_runs_of_programs(self):
        chance = random.Random(31)
        for text in PROGRAMS:
            program = read_program(text)
            placed = in_place(program)
            for _ in range(25):
                answers = tuple(chance.randrange(2) for _ in range(chance.randrange(12)))
                with self.subTest(text=text, answers=answers):
                    self.runs_alike(program, placed, answers)

    def test_let_by_alike(self):
        let_by = set()
        for text in PROGRAMS:
            program = read_program(text)
            with self.subTest(text=text):
                self.assertEqual(is_let_by(in_place(program)), is_let_by(program))
                let_by.add(is_let_by(program))
        self.assertEqual(let_by, {True, False})

    def test_by_chance(self):
        chance = random.Random(32)
        seen = {"defs": set(), "let by": set(), "ends": set(), "too long": 0}
        for _ in range(250):
            program = made_program(chance, most_defs=6, deep=3)
            try:
                placed = self.right(program)
            except TooLong:
                seen["too long"] += 1
                continue
            self.assertEqual(is_let_by(placed), is_let_by(program))
            for _ in range(6):
                answers = tuple(chance.choice((0, 0, 1, 1, 2)) for _ in range(chance.randrange(25)))
                answers = answers_that_fit(program, answers)
                self.runs_alike(program, placed, answers)
                seen["ends"].add(run(program, answers, 300)[0])
            seen["defs"].add(len(program[0]))
            seen["let by"].add(is_let_by(program))
        self.assertEqual(seen["defs"], {0, 1, 2, 3, 4, 5, 6})
        self.assertEqual(seen["let by"], {True, False})
        self.assertEqual(seen["ends"], {"ended", "fault", "on"})
        self.assertGreater(seen["too long"], 0)

    def test_by_going_all_ways(self):
        chance = random.Random(33)
        whole = 0
        for _ in range(150):
            program = made_program(chance, most_defs=2, deep=2)
            try:
                found = Explored(in_place(program), "")
            except TooLong:
                continue
            if found.whole:
                whole += 1
                self.assertEqual(is_let_by(program), not found.stays)
        self.assertGreater(whole, 75)


def answers_that_fit(program, answers):
    """The answers with a 0 for each that can't be given."""
    given = list(answers)
    while True:
        try:
            run(program, tuple(given), 300)
            return tuple(given)
        except WipeError as refused:
            given[refused.number] = 0


if __name__ == "__main__":
    unittest.main()
