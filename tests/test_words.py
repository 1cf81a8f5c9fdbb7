"""Point [5]: words_in, boxes_in, def_of, row_of; of [2], that nothing handed in is changed."""

import copy
import unittest

from wipeways.words import boxes_in, def_of, is_program, row_of, words_in

TELL = ("tell", "x")
FIRST = ("first", ("p",), ("q",), (("copy", "q", "p"), ("wipe", "p")))
SECOND = ("second", (), (), (("loop", (("out", 1),)),))
MAIN = (("take", "k", "w"), ("call", "first", ("k",), ("m",)), ("wipe", "m"))
PROGRAM = ((FIRST, SECOND), MAIN)


class TestWordsIn(unittest.TestCase):

    def test_a_row_without_words(self):
        self.assertEqual(words_in(()), 0)

    def test_a_plain_row(self):
        for many in range(0, 70):
            with self.subTest(many=many):
                self.assertEqual(words_in((TELL,) * many), many)

    def test_each_word_is_one(self):
        for word in (
            ("take", "x", "w"), ("ask", "x"), ("number", "x", 9999), ("copy", "x", "y"), ("mix", "x", "y", "z"),
            ("open", "x", "y"), ("tell", "x"), ("wipe", "x"), ("clear", "r"), ("drop", ("x", "y", "z")),
            ("choose", ((),)), ("choose", ((), (), (), ())), ("loop", ()), ("risk", "f"), ("fault", "f"),
            ("call", "d", ("x", "y"), ("x", "y")), ("back",),
        ):
            with self.subTest(word=word):
                self.assertEqual(words_in((word,)), 1)
                self.assertEqual(words_in((("loop", (word,)),)), 2)
                self.assertEqual(words_in((("choose", ((), (word,))),)), 2)

    def test_all_rows_of_a_choose(self):
        self.assertEqual(words_in((("choose", ((TELL,), (TELL,) * 2, (), (TELL,) * 4)),)), 8)

    def test_rows_in_rows(self):
        inner = (TELL, ("choose", ((TELL,), (("loop", (("out", 2), TELL)), ("out", 1)))), TELL)
        self.assertEqual(words_in(inner), 8)
        self.assertEqual(words_in((("loop", inner), TELL)), 10)
        self.assertEqual(words_in((("choose", (inner, inner)), ("loop", inner))), 26)

    def test_the_words_of_a_called_def_are_not_counted(self):
        self.assertEqual(words_in(MAIN), 3)

    def test_deep_rows(self):
        row = ()
        for depth in range(0, 60):
            self.assertEqual(words_in(row), 2 * depth)
            row = (TELL, ("loop", row))


class TestBoxesIn(unittest.TestCase):

    def test_a_row_without_boxes(self):
        for row in (
            (), (("clear", "key"),), (("risk", "f"), ("fault", "g")), (("back",),), (("loop", (("out", 1),)),),
            (("choose", ((), ())),), (("call", "d", (), ()),),
        ):
            with self.subTest(row=row):
                self.assertEqual(boxes_in(row), ())

    def test_each_word(self):
        for word, boxes in (
            (("take", "x", "w"), ("x",)),
            (("ask", "x"), ("x",)),
            (("number", "x", 5), ("x",)),
            (("copy", "x", "y"), ("x", "y")),
            (("mix", "x", "y", "z"), ("x", "y", "z")),
            (("open", "x", "y"), ("x", "y")),
            (("tell", "x"), ("x",)),
            (("wipe", "x"), ("x",)),
            (("drop", ("x", "y", "z")), ("x", "y", "z")),
            (("call", "d", ("x", "y"), ("z", "u")), ("u", "x", "y", "z")),
            (("call", "d", ("x",), ()), ("x",)),
            (("call", "d", (), ("x",)), ("x",)),
        ):
            with self.subTest(word=word):
                self.assertEqual(boxes_in((word,)), boxes)
                self.assertEqual(boxes_in((("loop", (word,)),)), boxes)
                self.assertEqual(boxes_in((("choose", ((), (word,))),)), boxes)
                self.assertEqual(boxes_in((("choose", ((word,), ())),)), boxes)
                self.assertEqual(boxes_in((("loop", (("choose", ((), (("loop", (word,)),))),)),)), boxes)

    def test_rising(self):
        for row, boxes in (
            ((("copy", "b", "a"),), ("a", "b")),
            ((("tell", "z"), ("tell", "b.a"), ("tell", "b"), ("tell", "a.z")), ("a.z", "b", "b.a", "z")),
            ((("drop", ("keys", "key.low", "key", "key.high")),), ("key", "key.high", "key.low", "keys")),
            ((("call", "d", ("z", "y"), ("x", "w")),), ("w", "x", "y", "z")),
            ((("loop", (("tell", "a"),)), ("tell", "c"), ("choose", ((("tell", "b"),), (("tell", "aa"),)))),
             ("a", "aa", "b", "c")),
        ):
            with self.subTest(row=row):
                self.assertEqual(boxes_in(row), boxes)

    def test_each_once(self):
        self.assertEqual(boxes_in((("mix", "x", "x", "x"), ("copy", "x", "y"), ("tell", "y"))), ("x", "y"))
        self.assertEqual(boxes_in((TELL, ("loop", (TELL, ("choose", ((TELL,), (TELL,))))))), ("x",))
        self.assertEqual(boxes_in((("call", "d", ("x", "y"), ("y", "x")), ("drop", ("x", "y")))), ("x", "y"))

    def test_names_that_are_no_boxes(self):
        row = (
            ("take", "a", "worth"), ("clear", "record"), ("risk", "danger"), ("fault", "broken"),
            ("call", "defname", ("b",), ("c",)), ("clear", "d"), ("tell", "d.e"),
        )
        self.assertEqual(boxes_in(row), ("a", "b", "c", "d.e"))

    def test_the_boxes_of_a_called_def_are_none_of_it(self):
        self.assertEqual(boxes_in(MAIN), ("k", "m"))

    def test_deep_rows(self):
        row = (("tell", "z"),)
        for _ in range(0, 60):
            row = (("wipe", "a"), ("loop", row))
        self.assertEqual(boxes_in(row), ("a", "z"))

    def test_a_tuple_is_told(self):
        self.assertIs(type(boxes_in(())), tuple)
        self.assertIs(type(boxes_in((TELL,))), tuple)


class TestDefOf(unittest.TestCase):

    def test_the_program_is_right(self):
        self.assertIs(is_program(PROGRAM), True)

    def test_a_def(self):
        self.assertEqual(def_of(PROGRAM, "first"), FIRST)
        self.assertEqual(def_of(PROGRAM, "second"), SECOND)

    def test_each_of_six(self):
        defs = tuple((name, (name,), (), (("wipe", name),)) for name in "abcdef")
        for one in defs:
            with self.subTest(name=one[0]):
                self.assertEqual(def_of((defs, ()), one[0]), one)
                self.assertEqual(row_of((defs, ()), one[0]), (("wipe", one[0]),))

    def test_a_name_that_no_def_has(self):
        for name in ("third", "firs", "firstt", "k", "main", ""):
            with self.subTest(name=name):
                self.assertIsNone(def_of(PROGRAM, name))
        self.assertIsNone(def_of(((), MAIN), "first"))


class TestRowOf(unittest.TestCase):

    def test_the_main_row(self):
        self.assertEqual(row_of(PROGRAM, ""), MAIN)
        self.assertEqual(row_of(((), ()), ""), ())
        self.assertEqual(row_of(((), MAIN), ""), MAIN)

    def test_the_row_of_a_def(self):
        self.assertEqual(row_of(PROGRAM, "first"), FIRST[3])
        self.assertEqual(row_of(PROGRAM, "second"), SECOND[3])
        self.assertEqual(row_of(((("d", ("a",), ("b",), ()),), MAIN), "d"), ())


class TestAsked(unittest.TestCase):

    def test_nothing_is_changed_and_the_same_is_told(self):
        rows = [MAIN, FIRST[3], SECOND[3], (("loop", MAIN), ("choose", (MAIN, FIRST[3])))]
        kept = copy.deepcopy((rows, PROGRAM))
        first = [(words_in(row), boxes_in(row)) for row in rows]
        again = [(words_in(row), boxes_in(row)) for row in reversed(rows)]
        self.assertEqual(first, again[::-1])
        for name in ("first", "second", "third", "first"):
            self.assertEqual(def_of(PROGRAM, name), def_of(PROGRAM, name))
        self.assertEqual(row_of(PROGRAM, ""), row_of(PROGRAM, ""))
        self.assertEqual((rows, PROGRAM), kept)


if __name__ == "__main__":
    unittest.main()
