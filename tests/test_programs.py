"""Point [5]: what a program is; of [2], whole numbers and what "of anything" means."""

import copy
import unittest

from things import deep, no_texts
from wipeways.words import is_program

# A def with one param and two results, and one with neither, to be called.
ONE = ("one", ("a",), ("b", "c.d"), ())
NONE = ("none", (), (), ())
HEADS = (ONE, NONE)

RIGHT_WORDS = (
    ("take", "x", "w"), ("take", "key.low", "key"), ("take", "x", "x"), ("take", "abcdefgh.abcdefgh", "abcdefgh"),
    ("ask", "x"), ("ask", "key.low"),
    ("number", "x", 0), ("number", "x", 1), ("number", "key.low", 9999), ("number", "x", 5000),
    ("copy", "x", "y"), ("copy", "x", "x"), ("copy", "key.low", "key"),
    ("mix", "x", "y", "z"), ("mix", "x", "x", "x"), ("mix", "a.b", "b.a", "c"),
    ("open", "x", "y"), ("open", "x", "x"), ("open", "a.b", "a.c"),
    ("tell", "x"), ("tell", "key.low"),
    ("wipe", "x"), ("wipe", "key.low"),
    ("clear", "key"), ("clear", "abcdefgh"),
    ("drop", ("x",)), ("drop", ("x", "y")), ("drop", ("key", "key.low", "key.high", "y", "z", "a", "b")),
    ("choose", ((),)), ("choose", ((), ())), ("choose", ((), (), ())), ("choose", ((), (), (), ())),
    ("choose", ((("tell", "x"),), (("wipe", "x"), ("wipe", "y")))),
    ("loop", ()), ("loop", (("tell", "x"),)), ("loop", (("out", 1),)), ("loop", (("loop", (("out", 2),)),)),
    ("risk", "f"), ("risk", "abcdefgh"), ("fault", "f"), ("fault", "x"),
    ("call", "one", ("x",), ("y", "z")), ("call", "one", ("x.y",), ("x.y", "x")), ("call", "none", (), ()),
    ("back",),
)

# For each kind of word a right one; each part behind the first is broken by the things told for it.
PARTS = (
    (("take", "x", "w"), ("box", "name")),
    (("ask", "x"), ("box",)),
    (("number", "x", 5), ("box", "number")),
    (("copy", "x", "y"), ("box", "box")),
    (("mix", "x", "y", "z"), ("box", "box", "box")),
    (("open", "x", "y"), ("box", "box")),
    (("tell", "x"), ("box",)),
    (("wipe", "x"), ("box",)),
    (("clear", "r"), ("name",)),
    (("drop", ("x", "y")), ("drops",)),
    (("choose", ((), ())), ("rows",)),
    (("loop", ()), ("row",)),
    (("out", 1), ("loops",)),
    (("risk", "f"), ("name",)),
    (("fault", "f"), ("name",)),
    (("call", "one", ("x",), ("y", "z")), ("called", "args", "gets")),
    (("back",), ()),
)

# Names that are words of the tongue, and texts with wrong signs.
NO_NAME = ["", "X", "x1", "x ", " x", "x\n", "abcdefghi", "take", "back", "def", "main", "x.", ".x"]
NO_BOX = NO_NAME + ["x.y.z", "x..y", "take.x", "x.take", "x.Y"]


def wrong_parts(kind):
    """Things that can't stand in a word where a part of that kind is due."""
    if kind == "box":
        return no_texts() + NO_BOX
    if kind == "name":
        return no_texts() + NO_NAME + ["x.y"]
    if kind == "called":
        return no_texts() + NO_NAME + ["x.y", "three", "onee", "on"]
    if kind == "number":
        return no_wholes() + [-1, 10000, 10001, -9999, 10 ** 5000, -10 ** 5000]
    if kind == "loops":
        return no_wholes() + [0, -1, 2, 3, 10 ** 5000]
    if kind == "row":
        return no_tuples() + [("x",), ((),), (None,), (1,), ([],), ({},), ("tell", "x"), ("back",), (["back"],)]
    if kind == "rows":
        return no_tuples() + [
            (), ((), (), (), (), ()), ((), []), ([],), (None,), ("",), ((), "back"), (("back",),), ({},),
            ((), ("tell", "x")), (0,), (True, ()),
        ]
    return wrong_boxes(kind)


def wrong_boxes(kind):
    """Things that can't stand where so many boxes are due."""
    wrong = no_tuples() + [("x", "x"), ("x", "y", "x"), ("x.y", "x.y"), ("y", "X"), (1, 2), ("x", None), ([], "x")]
    wrong += [("x", ["y"]), ("x", ("y",)), (("x", "y"),), ("take", "x"), ({}, {}), (True,), ("x", "")]
    if kind == "drops":
        return wrong + [(), ("",), ("take",)]
    if kind == "args":
        return wrong + [(), ("x", "y"), ("x", "y", "z"), ("",)]
    return wrong + [(), ("x",), ("x", "y", "z"), ("x", "y", "z", "a", "b")]


def no_wholes():
    return [True, False, None, "1", "", (), (1,), [], [1], {}, {1: 1}, "x"]


def no_tuples():
    """Things that are no tuples, among them lists of what would be right in a tuple."""
    return [
        None, True, False, 0, 1, "", "x", "xy", [], ["x"], ["y", "z"], {}, {"x": "y"}, [()], [(), ()],
        [("tell", "x")], [("back",)], {"x": 1, "y": 2}, {(): ()},
    ]


def around(row):
    """Programs with this row in them at all kinds of places, none of which has a loop around it."""
    choose = ("choose", ((), row))
    return [
        (HEADS, row),
        (HEADS, (("ask", "q"),) + row + (("tell", "q"),)),
        (HEADS, (("choose", (row,)),)),
        (HEADS, (choose, ("back",))),
        (HEADS, (("choose", ((), (), (), row)),)),
        (HEADS, (("choose", ((), (choose,), ())),)),
        (HEADS, (("loop", (("out", 1),)), choose)),
        (HEADS + (("last", (), (), row),), ()),
        (HEADS + (("last", ("x",), ("x",), (("loop", ()), choose)), ("more", (), (), ())), (("back",),)),
    ]


def in_loops(row):
    """Programs with this row in them, within one loop of its def, or of the main row."""
    loop = ("loop", row)
    choose = ("choose", ((("ask", "q"),), (("tell", "q"),) + row, ()))
    return [
        (HEADS, (loop,)),
        (HEADS, (("loop", (("ask", "q"),) + row + (("tell", "q"),)),)),
        (HEADS, (("choose", ((), (loop,))),)),
        (HEADS, (("loop", (choose,)),)),
        (HEADS, (("choose", ((("loop", (choose,)),),)),)),
        (HEADS + (("last", (), (), (loop,)),), ()),
        (HEADS + (("last", (), (), (("loop", (choose,)), ("back",))),), ()),
    ]


class ProgramCase(unittest.TestCase):

    def right(self, thing):
        with self.subTest(right=shown(thing)):
            self.assertIs(is_program(thing), True)

    def wrong(self, thing):
        with self.subTest(wrong=shown(thing)):
            self.assertIs(is_program(thing), False)


def shown(thing):
    """Python refuses to write very great numbers."""
    try:
        return repr(thing)[:300]
    except ValueError:
        return "a thing with a great number"


class TestRightPrograms(ProgramCase):

    def test_without_words(self):
        self.right(((), ()))

    def test_each_word_at_each_kind_of_place(self):
        for word in RIGHT_WORDS:
            for program in around((word,)) + in_loops((word,)):
                self.right(program)

    def test_each_kind_of_word_is_among_them(self):
        self.assertEqual(
            sorted({word[0] for word in RIGHT_WORDS} | {"out"}), sorted(word[0] for word, kinds in PARTS)
        )

    def test_all_words_in_one_row(self):
        self.right((HEADS, RIGHT_WORDS))
        self.right((HEADS, (("loop", (("choose", (RIGHT_WORDS, RIGHT_WORDS)),)),)))

    def test_each_number(self):
        for n in range(0, 10000):
            if not is_program(((), (("number", "x", n),))):
                self.fail(n)

    def test_none_to_six_defs(self):
        for many in range(0, 7):
            defs = tuple((name, (), (), (("back",),)) for name in "abcdef"[:many])
            self.right((defs, ()))
            self.right((defs, tuple(("call", one[0], (), ()) for one in defs)))

    def test_params_and_results_of_none_to_four(self):
        boxes = ("a", "a.b", "a.c", "d")
        for params in range(0, 5):
            for results in range(0, 5):
                one = ("d", boxes[:params], boxes[:results], ())
                gets = ("x", "y", "z", "x.y")[:results]
                self.right(((one,), ()))
                self.right(((one,), (("call", "d", boxes[:params], gets),)))
                self.right(((one,), (("call", "d", boxes[:params], boxes[:results]),)))

    def test_a_name_of_a_def_may_be_that_of_a_box(self):
        self.right(((("x", ("x",), ("x",), (("take", "x", "x"), ("clear", "x"))),), (("call", "x", ("x",), ("x",)),)))

    def test_rows_within_one_another(self):
        row = (("back",),)
        for depth in range(0, 9):
            self.right(((), row))
            self.right(((("d", (), (), row),), row))
            row = (("loop", row), ("loop", row[:1]))[:1 + depth % 2]
        row = ()
        for _ in range(0, 6):
            self.right(((), row))
            row = (("choose", (row, ())),)

    def test_more_than_sixty_words(self):
        self.right(((), (("ask", "x"),) * 61))
        self.right(((), (("ask", "x"),) * 1000))

    def test_more_than_six_deep(self):
        row = (("out", 60),)
        for _ in range(0, 60):
            row = (("loop", row),)
        self.right(((), row))

    def test_calls_of_defs_ahead(self):
        first = ("first", (), (), ())
        second = ("second", (), (), (("call", "first", (), ()),))
        third = ("third", (), (), (("loop", (("call", "second", (), ()), ("call", "first", (), ()))),))
        self.right(((first, second, third), (("call", "third", (), ()), ("call", "first", (), ()))))


class TestWrongWords(ProgramCase):

    def test_each_part_of_each_word(self):
        for word, kinds in PARTS:
            for at, kind in enumerate(kinds, start=1):
                for part in wrong_parts(kind):
                    broken = (word[:at] + (part,) + word[at + 1:],)
                    for program in around(broken) + in_loops(broken):
                        self.wrong(program)

    def test_the_words_are_right_ahead_of_that(self):
        for word, kinds in PARTS:
            for program in in_loops((word,)):
                self.right(program)

    def test_a_part_less_or_more(self):
        for word, kinds in PARTS:
            longer = [word + (part,) for part in ("x", "w", 1, None, (), ("x",), [], {})]
            for broken in longer + [word[:-1]]:
                for program in around((broken,)) + in_loops((broken,)):
                    self.wrong(program)

    def test_no_word(self):
        words = no_texts() + ["back", "x", "", "take x w", ["back"], ["tell", "x"], {"back": None}]
        words += [("x",), ("",), ("Back",), ("back ",), ("def",), ("main",), ("def", "x"), ("main", ()), ("nothing", "x")]
        words += [(None,), (True,), (1, "x"), ([], "x"), ({}, "x"), ((), "x"), (("tell",), "x"), (["tell"], "x")]
        words += [("lay", 1, 2), ("fetch", 1, 2), ("clean", 1), ("same",), ("show",), ("x", "take", "w"), ((("back",),),)]
        for word in words:
            for program in around((word,)) + in_loops((word,)):
                self.wrong(program)

    def test_wrong_words_behind_right_ones(self):
        for broken in (("tell", "X"), ("nothing",), ("number", "x", 10000), "back", ("out", 3)):
            for word in RIGHT_WORDS:
                self.wrong((HEADS, (word, broken)))
                self.wrong((HEADS, (broken, word)))
                self.wrong((HEADS, (("choose", ((broken,), (word,))),)))
                self.wrong((HEADS, (("choose", ((word,), (broken,))),)))

    def test_a_main_row_that_is_none(self):
        for row in no_tuples() + [("x",), ("back",), ((),), (("back",), None), [("back",)]]:
            self.wrong(((), row))
            self.wrong((HEADS, row))


class TestOut(ProgramCase):

    def test_as_many_as_loops_around_it(self):
        for loops in range(0, 7):
            for n in range(-1, 9):
                row = (("out", n),)
                for _ in range(loops):
                    row = (("loop", row),)
                tell = self.right if 1 <= n <= loops else self.wrong
                tell(((), row))
                tell(((("d", (), (), row),), ()))
                tell(((), (("choose", (row, ())),)))

    def test_choices_do_not_count(self):
        for n, tell in ((1, self.right), (2, self.right), (3, self.wrong)):
            inner = (("choose", ((), (("choose", ((("out", n),),)),))),)
            tell(((), (("loop", (("choose", ((("loop", inner),),)),)),)))

    def test_loops_beside_it_do_not_count(self):
        self.wrong(((), (("loop", ()), ("out", 1))))
        self.wrong(((), (("out", 1), ("loop", ()))))
        self.wrong(((), (("choose", ((("loop", (("out", 1),)),), (("out", 1),))),)))
        self.wrong(((), (("loop", (("loop", (("out", 2),)), ("out", 2))),)))
        self.wrong(((), (("loop", (("out", 2), ("loop", (("out", 2),)))),)))
        self.right(((), (("loop", (("loop", (("out", 2),)), ("out", 1))),)))
        self.right(((), (("loop", (("out", 1), ("loop", (("out", 1),)))),)))

    def test_loops_around_a_call_do_not_count(self):
        for row, tell in (((("out", 1),), self.wrong), ((("loop", (("out", 2),)),), self.wrong),
                          ((("loop", (("out", 1),)),), self.right)):
            tell(((("d", (), (), row),), (("loop", (("call", "d", (), ()),)),)))
            tell(((("d", (), (), row), ("e", (), (), (("loop", (("call", "d", (), ()),)),))), ()))

    def test_truths_are_no_numbers(self):
        self.wrong(((), (("loop", (("out", True),)),)))
        self.wrong(((), (("loop", (("out", False),)),)))
        self.wrong(((), (("number", "x", True),)))
        self.wrong(((), (("number", "x", False),)))


class TestCalls(ProgramCase):

    def calls(self, call):
        """Rows with this call at all kinds of places."""
        return [(call,), (("choose", ((), (call,))),), (("loop", (call,)),), (("loop", (("choose", ((call,),)),)),)]

    def test_of_a_def_that_stands_behind(self):
        for row in self.calls(("call", "b", (), ())):
            self.wrong(((("a", (), (), row), ("b", (), (), ())), ()))
            self.right(((("b", (), (), ()), ("a", (), (), row)), ()))

    def test_of_itself(self):
        for row in self.calls(("call", "a", (), ())):
            self.wrong(((("a", (), (), row),), ()))
            self.wrong(((("b", (), (), ()), ("a", (), (), row)), (("call", "a", (), ()),)))

    def test_of_none(self):
        for name in ("c", "ab", "aa", "", "main"):
            for row in self.calls(("call", name, (), ())):
                self.wrong(((), row))
                self.wrong(((("a", (), (), ()), ("b", (), (), ())), row))
                self.wrong(((("a", (), (), ()), ("b", (), (), row)), ()))

    def test_of_one_another(self):
        first = ("a", (), (), (("call", "b", (), ()),))
        second = ("b", (), (), (("call", "a", (), ()),))
        self.wrong(((first, second), ()))
        self.wrong(((second, first), ()))

    def test_args_and_gets_fewer_or_more(self):
        boxes = ("p", "q", "r", "s", "t")
        for params in range(0, 5):
            for results in range(0, 5):
                one = ("d", boxes[:params], boxes[:results], ())
                for args in range(0, 6):
                    for gets in range(0, 6):
                        tell = self.right if (args, gets) == (params, results) else self.wrong
                        call = ("call", "d", boxes[:args], boxes[:gets])
                        tell(((one,), (call,)))
                        tell(((one, ("e", (), (), (("loop", (call,)),))), ()))

    def test_boxes_twice(self):
        boxes = ("a", "b", "c.d", "e")
        one = ("d", boxes, boxes, ())
        for twice in (("x", "x", "y", "z"), ("x", "y", "z", "x"), ("x.y", "x", "z", "x.y")):
            for row in self.calls(("call", "d", twice, boxes)) + self.calls(("call", "d", boxes, twice)):
                self.wrong(((one,), row))
                self.wrong(((one, ("e", (), (), row)), ()))
        # The same box may stand in both.
        for row in self.calls(("call", "d", boxes, boxes)):
            self.right(((one,), row))

    def test_each_call_by_its_own_def(self):
        defs = (("a", ("x",), (), ()), ("b", (), ("x",), ()))
        self.right((defs, (("call", "a", ("y",), ()), ("call", "b", (), ("y",)))))
        self.wrong((defs, (("call", "b", ("y",), ()),)))
        self.wrong((defs, (("call", "a", (), ("y",)),)))


class TestDefs(ProgramCase):

    def defs(self, *defs):
        return (defs, (("back",),))

    def test_names_that_are_none(self):
        for name in no_texts() + NO_NAME + ["x.y", "take", "main"]:
            self.wrong(self.defs((name, (), (), ())))
            self.wrong(self.defs(ONE, (name, (), (), ())))

    def test_the_same_name_twice(self):
        self.wrong(self.defs(NONE, NONE))
        self.wrong(self.defs(NONE, ONE, ("none", ("x",), (), ())))
        self.wrong(self.defs(ONE, NONE, ("two", (), (), ()), ("one", (), (), (("back",),))))

    def test_seven_defs(self):
        for many in (7, 8, 20):
            self.wrong(self.defs(*[(name, (), (), ()) for name in "abcdefghijklmnopqrstuvwxyz"[:many]]))

    def test_params_and_results(self):
        wrong = no_tuples() + [
            ("a", "b", "c", "d", "e"), ("x", "x"), ("a", "b", "a"), ("a.b", "c", "a.b"), ("a", "b", "c", "d", "d"),
            ("a", "B"), (None,), (1,), (["a"],), (("a",),), ({},), ("take",), ("x.take",), ("",), ("a", "x.y.z"),
        ]
        for boxes in wrong:
            self.wrong(self.defs(("d", boxes, (), ())))
            self.wrong(self.defs(("d", (), boxes, ())))
            self.wrong(self.defs(ONE, ("d", ("a",), boxes, ())))
            self.wrong(self.defs(ONE, ("d", boxes, ("a",), ())))

    def test_rows_that_are_none(self):
        for row in no_tuples() + [("x",), ("back",), ((),), (("back",), None), [("back",)]]:
            self.wrong(self.defs(("d", (), (), row)))
            self.wrong(self.defs(ONE, ("d", (), (), row), NONE))

    def test_parts_less_or_more(self):
        for one in ((), ("d",), ("d", ()), ("d", (), ()), ("d", (), (), (), ()), ("d", (), (), (), None)):
            self.wrong(self.defs(one))
            self.wrong(self.defs(ONE, one, NONE))

    def test_defs_that_are_no_tuples(self):
        for one in no_texts() + ["dddd", ["d", (), (), ()], {"d": (), "e": (), "f": (), "g": ()}]:
            self.wrong(self.defs(one))
            self.wrong(self.defs(ONE, one))
        for defs in no_tuples() + [[NONE], {"none": NONE}, ("d",), NONE, ([],), ((),), (None,), list(HEADS)]:
            self.wrong((defs, ()))


class TestOfAnything(ProgramCase):

    def test_no_programs(self):
        things = no_texts() + no_tuples() + [
            "", "main { }", "main", ((),), ((), (), ()), ((), (), None), [(), ()], ([], []), ((), []), ([], ()),
            {(): ()}, ((), None), (None, ()), (("back",), ()), ((), ("back",)), ((), "back"), ("", ""), ((), {}),
            (({},), ()), ((), (({},),)), (((), ()), ()), ((), ((), ())),
        ]
        for thing in things:
            self.wrong(thing)

    def test_deep_things(self):
        for many in range(1, 21):
            for thing in (deep(many), (deep(many), ()), ((), deep(many)), (deep(many), deep(many))):
                if thing != ((), ()):
                    self.wrong(thing)

    def test_deep_things_in_words(self):
        for many in range(2, 15):
            for word in (("tell", deep(many)), ("drop", deep(many)), ("loop", deep(many)), deep(many)):
                self.wrong(((), (word,)))
        for many in range(3, 15):
            self.wrong(((), (("choose", deep(many)),)))

    def test_a_program_that_is_no_part_of_it(self):
        program = (HEADS, RIGHT_WORDS)
        self.right(program)
        self.wrong(list(program))
        self.wrong((list(HEADS), RIGHT_WORDS))
        self.wrong((HEADS, list(RIGHT_WORDS)))
        self.wrong((program,))
        self.wrong((program, program))
        self.wrong(RIGHT_WORDS)

    def test_nothing_is_changed(self):
        things = no_texts() + no_tuples()
        things += [((), (word,)) for word in things] + [(things_in(), ()), ((), things_in())]
        kept = copy.deepcopy(things)
        for thing in things:
            is_program(thing)
        self.assertEqual(things, kept)

    def test_the_same_is_told_the_same(self):
        things = no_texts() + around(RIGHT_WORDS) + around((("out", 1),)) + in_loops((("out", 1),))
        first = [is_program(thing) for thing in things]
        again = [is_program(thing) for thing in reversed(things)]
        self.assertEqual(first, again[::-1])
        self.assertEqual(first.count(True), len(around(())) + len(in_loops(())))


def things_in():
    """A list with lists and dicts in it, as a caller may hold on to."""
    return [["tell", "x"], {"back": []}, ("drop", ["x", "y"]), ("loop", [["back"]])]


if __name__ == "__main__":
    unittest.main()
