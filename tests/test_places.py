"""Point [6]: places; of [2], that nothing handed in is changed and the same is told the same."""

import copy
import random
import unittest

from things import graph_of, made_program
from wipeways.places import behind, first_place, inside, out_of, places_of, word_at
from wipeways.words import is_program, words_in

TELL = ("tell", "x")
WIPE = ("wipe", "x")
OUT = ("out", 1)

# Three loops deep, with a choose between; what stands at each place is told below.
INNER = ("loop", (("out", 3), ("out", 2), ("out", 1)))
MIDDLE = ("loop", (("choose", ((INNER, TELL), (), (OUT,), (("out", 2),))), WIPE))
OUTER = ("loop", (MIDDLE, TELL))
NESTED = (TELL, OUTER, WIPE)
NESTED_PLACES = (
    ("", 0),
    ("", 1),
    ("", 1, 0, 0),
    ("", 1, 0, 0, 0, 0),
    ("", 1, 0, 0, 0, 0, 0, 0),
    ("", 1, 0, 0, 0, 0, 0, 0, 0, 0),
    ("", 1, 0, 0, 0, 0, 0, 0, 0, 1),
    ("", 1, 0, 0, 0, 0, 0, 0, 0, 2),
    ("", 1, 0, 0, 0, 0, 0, 1),
    ("", 1, 0, 0, 0, 0, 2, 0),
    ("", 1, 0, 0, 0, 0, 3, 0),
    ("", 1, 0, 0, 0, 1),
    ("", 1, 0, 1),
    ("", 2),
    ("", 3),
)


def cases(row):
    """Programs with the row as the main row and as the row of a def, each with the name of that row."""
    return [
        (((), row), ""),
        (((("d", (), (), (TELL,)),), row), ""),
        (((("d", ("p",), ("q",), row),), (TELL, TELL)), "d"),
        (((("c", (), (), (WIPE, WIPE)), ("d", ("p",), (), row)), ()), "d"),
    ]


class TestPlacesOf(unittest.TestCase):

    def test_a_row_without_words_has_its_end_alone(self):
        for program, name in cases(()):
            self.assertEqual(places_of(program, name), ((name, 0),))

    def test_plain_rows(self):
        for many in range(0, 60):
            for program, name in cases((TELL,) * many):
                self.assertEqual(places_of(program, name), tuple((name, at) for at in range(many + 1)))

    def test_choices_of_one_to_four_rows(self):
        for rows, inner in (
            (((),), ()),
            (((TELL,),), ((0, 0),)),
            (((), ()), ()),
            (((TELL, TELL), ()), ((0, 0), (0, 1))),
            (((), (TELL, WIPE)), ((1, 0), (1, 1))),
            (((TELL,), (), (WIPE,)), ((0, 0), (2, 0))),
            (((TELL,), (TELL,), (), (TELL, TELL, TELL)), ((0, 0), (1, 0), (3, 0), (3, 1), (3, 2))),
        ):
            for program, name in cases((TELL, ("choose", rows), TELL)):
                due = ((name, 0), (name, 1)) + tuple((name, 1) + place for place in inner) + ((name, 2), (name, 3))
                self.assertEqual(places_of(program, name), due)

    def test_loops(self):
        for program, name in cases((("loop", ()), ("loop", (TELL, ("loop", (OUT,)))))):
            self.assertEqual(places_of(program, name), (
                (name, 0), (name, 1), (name, 1, 0, 0), (name, 1, 0, 1), (name, 1, 0, 1, 0, 0), (name, 2),
            ))

    def test_rows_in_rows(self):
        self.assertEqual(places_of(((), NESTED), ""), NESTED_PLACES)

    def test_more_than_ten_words_rise_by_number(self):
        row = (("loop", (TELL,) * 12),) * 12
        places = places_of(((), row), "")
        self.assertEqual(len(places), words_in(row) + 1)
        self.assertEqual(places[12:14], (("", 0, 0, 11), ("", 1)))
        self.assertEqual(list(places), sorted(places))
        self.assertEqual(places[-1], ("", 12))

    def test_each_row_its_own(self):
        program = ((("d", (), (), (TELL,)), ("e", (), (), (("loop", (OUT,)),))), (TELL, TELL))
        self.assertEqual(places_of(program, "d"), (("d", 0), ("d", 1)))
        self.assertEqual(places_of(program, "e"), (("e", 0), ("e", 0, 0, 0), ("e", 1)))
        self.assertEqual(places_of(program, ""), (("", 0), ("", 1), ("", 2)))

    def test_all_parts_are_texts_and_whole_numbers(self):
        for place in places_of(((), NESTED), ""):
            self.assertIs(type(place), tuple)
            self.assertIs(type(place[0]), str)
            self.assertEqual({type(number) for number in place[1:]}, {int})
        self.assertIs(type(places_of(((), NESTED), "")), tuple)


class TestWordAt(unittest.TestCase):

    def test_each_word_of_nested_rows(self):
        due = (
            TELL, OUTER, MIDDLE, MIDDLE[1][0], INNER, ("out", 3), ("out", 2), ("out", 1), TELL, OUT, ("out", 2), WIPE,
            TELL, WIPE, None,
        )
        self.assertEqual(tuple(word_at(((), NESTED), place) for place in NESTED_PLACES), due)

    def test_none_at_each_end(self):
        program = ((("d", (), (), (TELL,)), ("e", (), (), ())), (TELL, TELL))
        self.assertIsNone(word_at(program, ("d", 1)))
        self.assertIsNone(word_at(program, ("e", 0)))
        self.assertIsNone(word_at(program, ("", 2)))
        self.assertIsNone(word_at(((), ()), ("", 0)))
        self.assertEqual(word_at(program, ("d", 0)), TELL)
        self.assertEqual(word_at(program, ("", 1)), TELL)

    def test_rows_of_a_choose(self):
        row = (("choose", ((), (TELL,), (WIPE, TELL), (("back",),))),)
        for program, name in cases(row):
            self.assertEqual(word_at(program, (name, 0)), row[0])
            self.assertEqual(word_at(program, (name, 0, 1, 0)), TELL)
            self.assertEqual(word_at(program, (name, 0, 2, 0)), WIPE)
            self.assertEqual(word_at(program, (name, 0, 2, 1)), TELL)
            self.assertEqual(word_at(program, (name, 0, 3, 0)), ("back",))


class TestBehind(unittest.TestCase):

    def test_the_next_word_of_the_row(self):
        for program, name in cases((TELL, ("choose", ((TELL, WIPE),)), ("loop", (TELL, WIPE)))):
            self.assertEqual(behind(program, (name, 0)), (name, 1))
            self.assertEqual(behind(program, (name, 1)), (name, 2))
            self.assertEqual(behind(program, (name, 1, 0, 0)), (name, 1, 0, 1))
            self.assertEqual(behind(program, (name, 2, 0, 0)), (name, 2, 0, 1))

    def test_the_last_word_of_a_row_of_a_choose(self):
        for program, name in cases((("choose", ((TELL,), (), (TELL, WIPE))), TELL)):
            self.assertEqual(behind(program, (name, 0, 0, 0)), (name, 1))
            self.assertEqual(behind(program, (name, 0, 2, 1)), (name, 1))

    def test_the_last_word_of_a_loop(self):
        for program, name in cases((TELL, ("loop", (TELL, WIPE)), TELL)):
            self.assertEqual(behind(program, (name, 1, 0, 1)), (name, 1))
            self.assertEqual(behind(program, (name, 1)), (name, 2))

    def test_the_last_word_leads_to_the_end(self):
        for last in (TELL, ("loop", (TELL,)), ("loop", ()), ("choose", ((TELL,),))):
            for program, name in cases((TELL, last)):
                self.assertEqual(behind(program, (name, 1)), (name, 2))
        for program, name in cases((("choose", ((TELL,), (("choose", ((), (TELL,))),))),)):
            self.assertEqual(behind(program, (name, 0, 0, 0)), (name, 1))
            self.assertEqual(behind(program, (name, 0, 1, 0)), (name, 1))
            self.assertEqual(behind(program, (name, 0, 1, 0, 1, 0)), (name, 1))

    def test_a_choose_last_in_a_loop(self):
        for program, name in cases((("loop", (TELL, ("choose", ((TELL,), (("loop", (WIPE,)),))))), TELL)):
            self.assertEqual(behind(program, (name, 0, 0, 1)), (name, 0))
            self.assertEqual(behind(program, (name, 0, 0, 1, 0, 0)), (name, 0))
            self.assertEqual(behind(program, (name, 0, 0, 1, 1, 0)), (name, 0))
            self.assertEqual(behind(program, (name, 0, 0, 1, 1, 0, 0, 0)), (name, 0, 0, 1, 1, 0))

    def test_all_of_nested_rows(self):
        due = (
            ("", 1), ("", 2), ("", 1, 0, 1), ("", 1, 0, 0, 0, 1), ("", 1, 0, 0, 0, 0, 0, 1),
            ("", 1, 0, 0, 0, 0, 0, 0, 0, 1), ("", 1, 0, 0, 0, 0, 0, 0, 0, 2), ("", 1, 0, 0, 0, 0, 0, 0),
            ("", 1, 0, 0, 0, 1), ("", 1, 0, 0, 0, 1), ("", 1, 0, 0, 0, 1), ("", 1, 0, 0), ("", 1), ("", 3),
        )
        self.assertEqual(tuple(behind(((), NESTED), place) for place in NESTED_PLACES[:-1]), due)


class TestFirstPlace(unittest.TestCase):

    def test_of_rows(self):
        for row in ((), (TELL,), NESTED, (("loop", ()),), (("choose", ((),)),)):
            for program, name in cases(row):
                self.assertEqual(first_place(program, name), (name, 0))

    def test_inside(self):
        row = (TELL, ("choose", ((), (TELL,), (), (WIPE, TELL))), ("loop", ()), ("loop", (TELL,)), WIPE)
        for program, name in cases(row):
            self.assertEqual(inside(program, (name, 1), 0), (name, 2))
            self.assertEqual(inside(program, (name, 1), 1), (name, 1, 1, 0))
            self.assertEqual(inside(program, (name, 1), 2), (name, 2))
            self.assertEqual(inside(program, (name, 1), 3), (name, 1, 3, 0))
            self.assertEqual(inside(program, (name, 2), 0), (name, 2))
            self.assertEqual(inside(program, (name, 3), 0), (name, 3, 0, 0))

    def test_a_row_without_words_in_a_last_choose(self):
        for program, name in cases((("choose", ((),)),)):
            self.assertEqual(inside(program, (name, 0), 0), (name, 1))
        for program, name in cases((("loop", (TELL, ("choose", ((), (TELL,))))),)):
            self.assertEqual(inside(program, (name, 0, 0, 1), 0), (name, 0))
            self.assertEqual(inside(program, (name, 0, 0, 1), 1), (name, 0, 0, 1, 1, 0))
        for program, name in cases((("choose", ((TELL,), (("choose", ((), ())),))), TELL)):
            self.assertEqual(inside(program, (name, 0, 1, 0), 1), (name, 1))

    def test_a_loop_without_words_in_words(self):
        for program, name in cases((("choose", ((), (("loop", ()),))), ("loop", (("loop", ()),)))):
            self.assertEqual(inside(program, (name, 0, 1, 0), 0), (name, 0, 1, 0))
            self.assertEqual(inside(program, (name, 1, 0, 0), 0), (name, 1, 0, 0))
            self.assertEqual(inside(program, (name, 1), 0), (name, 1, 0, 0))


class TestOutOf(unittest.TestCase):

    def test_each_number_of_loops(self):
        program = ((), NESTED)
        for at in (0, 1, 2):
            place = ("", 1, 0, 0, 0, 0, 0, 0, 0, at)
            self.assertEqual(out_of(program, place, 1), ("", 1, 0, 0, 0, 0, 0, 1))
            self.assertEqual(out_of(program, place, 2), ("", 1, 0, 1))
            self.assertEqual(out_of(program, place, 3), ("", 2))
        for row in (2, 3):
            self.assertEqual(out_of(program, ("", 1, 0, 0, 0, 0, row, 0), 1), ("", 1, 0, 1))
            self.assertEqual(out_of(program, ("", 1, 0, 0, 0, 0, row, 0), 2), ("", 2))

    def test_of_words_straight_in_a_loop(self):
        for program, name in cases((("loop", (TELL, OUT)), TELL)):
            self.assertEqual(out_of(program, (name, 0, 0, 1), 1), (name, 1))
        for program, name in cases((("loop", (OUT,)),)):
            self.assertEqual(out_of(program, (name, 0, 0, 0), 1), (name, 1))

    def test_a_loop_that_is_the_last_word_of_a_loop(self):
        for program, name in cases((("loop", (TELL, ("loop", (OUT, ("out", 2))))), TELL)):
            self.assertEqual(out_of(program, (name, 0, 0, 1, 0, 0), 1), (name, 0))
            self.assertEqual(out_of(program, (name, 0, 0, 1, 0, 1), 2), (name, 1))

    def test_through_choices_that_do_not_count(self):
        row = (("choose", ((), (("loop", (("choose", ((("choose", ((OUT,),)),),)),)),))), TELL)
        for program, name in cases(row):
            self.assertEqual(out_of(program, (name, 0, 1, 0, 0, 0, 0, 0, 0, 0), 1), (name, 1))


class TestByChance(unittest.TestCase):

    def test_as_told_anew(self):
        chance = random.Random(6)
        for _ in range(400):
            program = made_program(chance, most_defs=2, deep=5)
            self.assertIs(is_program(program), True)
            kept = copy.deepcopy(program)
            for name in [one[0] for one in program[0]] + [""]:
                self.one_row(program, name)
            self.assertEqual(program, kept)

    def one_row(self, program, name):
        graph = graph_of(program, name)
        self.assertEqual(places_of(program, name), tuple(sorted(graph)))
        self.assertEqual(places_of(program, name), places_of(program, name))
        for place, (word, leads) in graph.items():
            self.assertEqual(word_at(program, place), word)
            if word is not None:
                self.assertEqual(self.leads(program, place, word), leads)
                self.assertEqual(self.leads(program, place, word), leads)

    def leads(self, program, place, word):
        if word[0] == "choose":
            return [inside(program, place, number) for number in range(len(word[1]))]
        if word[0] == "loop":
            return [inside(program, place, 0)]
        if word[0] == "out":
            return [out_of(program, place, word[1])]
        return [] if word[0] in ("back", "fault") else [behind(program, place)]


if __name__ == "__main__":
    unittest.main()
