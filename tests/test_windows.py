"""Points [25], [26]: words taken away, by turns; of [3], that nothing that a run tells changes, and no more is left."""

import copy
import random
import unittest

from things import Explored, asked_from, deep, graph_of, left_of, made_program, no_texts, told_of
from wipeways.errors import NoTurn, WipeError
from wipeways.inplace import in_place
from wipeways.papers import is_let_by
from wipeways.places import places_of
from wipeways.runs import run
from wipeways.texts import read_program, show_program
from wipeways.windows import shorter, turned
from wipeways.words import is_program, words_in

RULES = ("same", "twice", "covered", "unread")


def names_of(program):
    return [one[0] for one in program[0]] + [""]


def without(program, place):
    """The program without the word at the place, told anew."""
    def cut(row, numbers):
        words = list(row)
        if len(numbers) == 1:
            del words[numbers[0]]
        elif words[numbers[0]][0] == "loop":
            words[numbers[0]] = ("loop", cut(words[numbers[0]][1], numbers[2:]))
        else:
            rows = list(words[numbers[0]][1])
            rows[numbers[1]] = cut(rows[numbers[1]], numbers[2:])
            words[numbers[0]] = ("choose", tuple(rows))
        return tuple(words)

    name, *numbers = place
    defs = tuple((*one[:3], cut(one[3], numbers) if one[0] == name else one[3]) for one in program[0])
    return (defs, cut(program[1], numbers) if name == "" else program[1])


class Rules:
    """Which rules let which words of a row go, told anew; whole is False where there was too much to go through."""

    def __init__(self, program, name):
        self.program = program
        self.graph = graph_of(program, name)
        found = Explored(program, name)
        self.whole = found.whole
        self.notes = found.notes

    def lets(self, place):
        """The rules that let the word at the place go, in their order."""
        word = self.graph[place][0]
        if word is None:
            return []
        after = self.graph.get(place[:-1] + (place[-1] + 1,), (None,))[0]
        makes = word[0] in ("number", "copy", "mix", "open")
        right = {
            "same": word[0] == "copy" and word[1] == word[2],
            "twice": word[0] in ("wipe", "clear") and after == word,
            "covered": makes and self.covers(after, word[1]),
            "unread": makes and not self.is_read(place, word[1]) and
            not any(box == word[1] for box, source in self.notes[place] or ()),
        }
        return [rule for rule in RULES if right[rule]]

    @staticmethod
    def covers(word, box):
        if word is None:
            return False
        if word[0] == "clear":
            return box.split(".")[0] == word[1] and "." in box
        if word[0] in ("take", "ask", "number", "wipe"):
            return word[1] == box
        return word[0] in ("copy", "mix", "open") and word[1] == box and box not in word[2:]

    def is_read(self, place, box):
        return any(box in asked_from(self.program, after) for after in self.graph[place][1])


class WindowsCase(unittest.TestCase):

    def lets(self, text, place, rule):
        """Sees that the rule lets the word at the place go."""
        program = read_program(text)
        with self.subTest(text=text, place=place, rule=rule):
            kept = copy.deepcopy(program)
            told = turned(program, (place, rule))
            self.assertEqual(told, without(program, place))
            self.assertEqual(told, turned(program, (place, rule)))
            self.assertIs(is_program(told), True)
            self.assertEqual(program, kept)
            self.assertIn(rule, Rules(program, place[0]).lets(place))

    def refused(self, program, turn):
        with self.assertRaises(WipeError) as raised:
            turned(program, turn)
        self.assertIs(type(raised.exception), NoTurn)

    def not_lets(self, text, place, *rules):
        """Sees that none of these rules lets the word at the place go."""
        program = read_program(text)
        for rule in rules:
            with self.subTest(text=text, place=place, rule=rule):
                self.refused(program, (place, rule))
                self.assertNotIn(rule, Rules(program, place[0]).lets(place))


class TestSame(WindowsCase):

    def test_a_copy_of_a_box_into_itself(self):
        self.lets("main { copy x x }", ("", 0), "same")
        self.lets("main { tell x copy k.a k.a tell k.a }", ("", 1), "same")
        self.lets("main { take x w loop { choose { copy x x tell x | out 1 } } }", ("", 1, 0, 0, 0, 0), "same")
        self.lets("def d ( p ) ( p ) { copy p p }\nmain { }", ("d", 0), "same")
        self.lets("main { back copy x x }", ("", 1), "same")

    def test_other_words(self):
        self.not_lets("main { copy x y }", ("", 0), "same")
        self.not_lets("main { copy k k.a }", ("", 0), "same")
        for word in ("open x x", "mix x x x", "take x w", "ask x", "tell x", "wipe x", "number x 0"):
            self.not_lets("main { " + word + " }", ("", 0), "same")


class TestTwice(WindowsCase):

    def test_two_alike(self):
        self.lets("main { wipe x wipe x }", ("", 0), "twice")
        self.lets("main { clear k clear k }", ("", 0), "twice")
        self.lets("main { choose { tell x | wipe k.a wipe k.a } }", ("", 0, 1, 0), "twice")
        self.lets("def d ( ) ( ) { loop { clear k clear k } }\nmain { }", ("d", 0, 0, 0), "twice")
        self.lets("main { wipe x wipe x wipe x }", ("", 1), "twice")

    def test_not_alike(self):
        self.not_lets("main { wipe x wipe y }", ("", 0), "twice")
        self.not_lets("main { clear k clear l }", ("", 0), "twice")
        self.not_lets("main { clear x wipe x }", ("", 0), "twice")
        self.not_lets("main { wipe x clear x }", ("", 0), "twice")
        self.not_lets("main { wipe x tell y wipe x }", ("", 0), "twice")

    def test_the_last_word_of_a_row(self):
        self.not_lets("main { wipe x wipe x }", ("", 1), "twice")
        self.not_lets("main { choose { wipe x } wipe x }", ("", 0, 0, 0), "twice")
        self.not_lets("main { choose { wipe x | wipe x } }", ("", 0, 0, 0), "twice")
        self.not_lets("main { loop { wipe x } }", ("", 0, 0, 0), "twice")

    def test_other_words(self):
        for word in ("tell x", "ask x", "take x w", "number x 5", "copy x y", "drop ( x )", "risk f", "loop { }"):
            self.not_lets("main { " + word + " " + word + " }", ("", 0), "twice")


class TestCovered(WindowsCase):

    def test_words_that_cover(self):
        for word in ("number x 5", "copy x y", "copy x x", "mix x y z", "mix x x x", "open x y"):
            for after in ("take x w", "ask x", "number x 0", "copy x y", "mix x y z", "open x y", "wipe x"):
                self.lets("main { " + word + " " + after + " tell x }", ("", 0), "covered")

    def test_words_that_ask_it_too(self):
        for after in ("copy x x", "mix x x y", "mix x y x", "open x x", "tell x", "copy y x"):
            self.not_lets("main { number x 5 " + after + " }", ("", 0), "covered")

    def test_words_that_do_not_put_into_it(self):
        for after in ("ask y", "copy y z", "wipe y", "drop ( x )", "clear x", "risk f", "fault f", "back", "loop { }",
                      "choose { wipe x }"):
            self.not_lets("main { number x 5 " + after + " }", ("", 0), "covered")
        # A call that gets it puts nothing into it by itself.
        text = "def d ( ) ( r ) { }\nmain { number x 5 call d ( ) ( x ) }"
        self.not_lets(text, ("", 0), "covered")
        self.lets(text, ("", 0), "unread")

    def test_clears(self):
        self.lets("main { number key.a 5 clear key tell key.a }", ("", 0), "covered")
        self.not_lets("main { number key.a 5 clear k }", ("", 0), "covered")
        self.not_lets("main { number key.a 5 clear keys }", ("", 0), "covered")
        self.not_lets("main { number keys.a 5 clear key }", ("", 0), "covered")
        self.not_lets("main { number key 5 clear key }", ("", 0), "covered")

    def test_words_that_are_not_covered(self):
        for word in ("take x w", "ask x", "wipe x", "tell x", "drop ( x )", "clear x"):
            self.not_lets("main { " + word + " number x 5 }", ("", 0), "covered")

    def test_the_last_word_of_a_row(self):
        self.not_lets("main { number x 5 }", ("", 0), "covered")
        self.not_lets("main { choose { number x 5 } number x 6 }", ("", 0, 0, 0), "covered")
        self.not_lets("main { choose { number x 5 | number x 6 } }", ("", 0, 0, 0), "covered")
        self.not_lets("main { loop { number x 5 } }", ("", 0, 0, 0), "covered")

    def test_also_where_it_holds_something(self):
        self.lets("main { take x w take y w copy x y wipe x wipe y }", ("", 2), "covered")
        self.lets("main { take x w number x 5 ask x }", ("", 1), "covered")

    def test_in_defs(self):
        self.lets("def d ( p ) ( p ) { mix p p p number p 5 }\nmain { }", ("d", 0), "covered")


class TestUnread(WindowsCase):

    def test_what_nothing_asks(self):
        for word in ("number x 5", "copy x y", "mix x y z", "open x y", "copy x x", "open x x"):
            self.lets("main { " + word + " tell y }", ("", 0), "unread")
            self.not_lets("main { " + word + " tell x }", ("", 0), "unread")
        self.lets("main { take y w copy x y wipe y }", ("", 1), "unread")
        self.lets("main { number x 5 tell y wipe x tell x }", ("", 0), "unread")
        self.lets("main { number x 5 back tell x }", ("", 0), "unread")
        self.lets("main { number x 5 fault f }", ("", 0), "unread")
        self.not_lets("main { number x 5 choose { | tell x } }", ("", 0), "unread")

    def test_other_words(self):
        for word in ("take x w", "ask x", "wipe x", "tell x", "drop ( x )", "clear x", "risk f", "loop { }", "back"):
            self.not_lets("main { " + word + " }", ("", 0), "unread")

    def test_with_a_kept_worth_in_its_box(self):
        self.not_lets("main { take x w number x 0 }", ("", 1), "unread")
        self.not_lets("main { choose { take x w | } number x 0 }", ("", 1), "unread")
        self.lets("main { take x w wipe x number x 0 }", ("", 2), "unread")
        self.lets("main { take x w open x x number x 0 }", ("", 2), "unread")
        self.not_lets("main { take x w open x x number x 0 }", ("", 1), "unread")
        self.not_lets("main { loop { number x 0 take x w } }", ("", 0, 0, 0), "unread")
        self.lets("main { loop { number x 0 take y w } }", ("", 0, 0, 0), "unread")

    def test_behind_loops(self):
        self.not_lets("main { loop { tell x number x 5 } }", ("", 0, 0, 1), "unread")
        self.lets("main { loop { tell y number x 5 } }", ("", 0, 0, 1), "unread")
        self.lets("main { number x 5 loop { } tell x }", ("", 0), "unread")
        self.not_lets("main { number x 5 loop { out 1 } tell x }", ("", 0), "unread")
        self.not_lets("main { loop { choose { number x 5 | out 1 } } tell x }", ("", 0, 0, 0, 0, 0), "unread")

    def test_results_of_defs(self):
        text = "def d ( ) ( r ) { number r 5 number q 6 }\nmain { }"
        self.not_lets(text, ("d", 0), "unread")
        self.lets(text, ("d", 1), "unread")
        text = "def d ( ) ( r ) { number r 5 choose { back | wipe r } }\nmain { }"
        self.not_lets(text, ("d", 0), "unread")
        self.lets("def d ( ) ( r ) { number r 5 loop { } }\nmain { }", ("d", 0), "unread")
        self.not_lets("def d ( ) ( r ) { number r 5 choose { fault f | } }\nmain { }", ("d", 0), "unread")
        # In the main row nothing is handed back.
        self.lets("main { number r 5 back }", ("", 0), "unread")

    def test_params_hold_what_came_from_themselves(self):
        self.not_lets("def d ( p ) ( ) { number p 0 }\nmain { }", ("d", 0), "unread")
        self.not_lets("def d ( p ) ( ) { copy q p number q 0 wipe p }\nmain { }", ("d", 1), "unread")
        self.lets("def d ( p ) ( ) { wipe p number p 0 }\nmain { }", ("d", 1), "unread")

    def test_calls(self):
        text = "def d ( p ) ( r ) { copy r p }\nmain { number x 5 call d ( x ) ( y ) }"
        self.not_lets(text, ("", 0), "unread")
        text = "def d ( p ) ( r ) { copy r p }\nmain { take x w call d ( x ) ( y ) number y 5 }"
        self.not_lets(text, ("", 2), "unread")
        text = "def d ( p ) ( r ) { open r p wipe p }\nmain { take x w call d ( x ) ( y ) number y 5 }"
        self.lets(text, ("", 2), "unread")
        text = "def d ( ) ( ) { loop { } }\nmain { number y 5 call d ( ) ( ) tell y }"
        self.lets(text, ("", 0), "unread")
        text = "def d ( ) ( ) { }\nmain { number y 5 call d ( ) ( ) tell y }"
        self.not_lets(text, ("", 0), "unread")

    def test_at_places_that_no_way_leads_to(self):
        self.lets("main { back take x w number x 5 }", ("", 2), "unread")
        self.not_lets("main { back take x w number x 5 tell x }", ("", 2), "unread")
        self.lets("def d ( p ) ( ) { fault f number p 5 }\nmain { }", ("d", 1), "unread")

    def test_a_row_may_lose_its_only_word(self):
        self.assertEqual(turned(read_program("main { choose { number x 5 | } loop { copy y z } }"), (("", 0, 0, 0), "unread")),
                         read_program("main { choose { | } loop { copy y z } }"))
        self.assertEqual(turned(read_program("main { loop { copy y x } }"), (("", 0, 0, 0), "unread")),
                         read_program("main { loop { } }"))


class TestNoTurn(WindowsCase):

    PROGRAM = "def d ( ) ( ) { copy x x }\nmain { copy x x choose { copy x x | } loop { wipe x wipe x } }"

    def test_places(self):
        program = read_program(self.PROGRAM)
        for place in (("", 0), ("d", 0), ("", 1, 0, 0)):
            turned(program, (place, "same"))
        turned(program, (("", 2, 0, 0), "twice"))
        for place in (("", 3), ("d", 1), ("", 4), ("d", 2), ("", -1), ("e", 0), ("main", 0), (), ("",), ("d",), ("", 0, 0),
                      ("", 0, 0, 0), ("", 1, 0), ("", 1, 0, 1), ("", 1, 1, 0), ("", 1, 2, 0), ("", 2, 1, 0), ("", "0"),
                      ("", None), ("", (0,)), ("", [0]), (0,), (0, 0), ("", 10 ** 5000), ({}, 0), ["", 0], "", "d", None, 0):
            with self.subTest(place=place if place != ("", 10 ** 5000) else "great"):
                for rule in RULES:
                    self.refused(program, (place, rule))

    def test_truths_for_numbers(self):
        program = read_program(self.PROGRAM)
        self.refused(program, (("", False), "same"))
        self.refused(program, (("d", False), "same"))
        self.refused(program, (("", True, 0, 0), "same"))
        self.refused(program, (("", 1, False, 0), "same"))

    def test_rules(self):
        program = read_program(self.PROGRAM)
        # Also where some other rule would let the word go.
        unread = read_program("main { number x 5 }")
        self.lets("main { number x 5 }", ("", 0), "unread")
        for rule in no_texts() + ["", "Same", "same ", "other", "copy", "Unread", deep(20)]:
            self.refused(program, (("", 0), rule))
            self.refused(unread, (("", 0), rule))

    def test_forms(self):
        program = read_program(self.PROGRAM)
        for turn in no_texts() + ["", "same", [("", 0), "same"], (("", 0),), (("", 0), "same", None), ("same", ("", 0)),
                                  (("", 0), "same", "same"), ((("", 0), "same"),), {("", 0): "same"}, ("", 0, "same")]:
            self.refused(program, turn)

    def test_rules_that_do_not_let(self):
        program = read_program("main { tell x take x w ask x wipe x clear k drop ( x ) choose { | } loop { out 1 } risk f }")
        for place in places_of(program, ""):
            for rule in RULES:
                self.refused(program, (place, rule))


class TestTurnsByChance(WindowsCase):

    def test_each_place_and_rule(self):
        chance = random.Random(91)
        done = {rule: 0 for rule in RULES}
        for _ in range(600):
            program = made_program(chance, most_defs=2, deep=3)
            for name in names_of(program):
                rules = Rules(program, name)
                for place in places_of(program, name) if rules.whole else ():
                    lets = rules.lets(place)
                    for rule in RULES:
                        if rule in lets:
                            self.assertEqual(turned(program, (place, rule)), without(program, place))
                            done[rule] += 1
                        else:
                            self.refused(program, (place, rule))
        self.assertGreater(min(done.values()), 3)


class ShorterCase(unittest.TestCase):

    def right(self, program):
        """Sees that the program is made shorter as is told; returns what it becomes."""
        kept = copy.deepcopy(program)
        told, turns = shorter(program)
        self.assertEqual((told, turns), shorter(program))
        self.assertEqual(program, kept)
        self.assertIs(type(turns), tuple)
        now = program
        for turn in turns:
            now = turned(now, turn)
        self.assertEqual(now, told)
        whole, anew = self.told_anew(program)
        if whole:
            self.assertEqual(turns, anew)
        return told

    @staticmethod
    def told_anew(program):
        """The turns, by looking for the first one from the beginning each time; and whether all could be seen."""
        turns = []
        while True:
            found = None
            for name in names_of(program):
                rules = Rules(program, name)
                if not rules.whole:
                    return False, ()
                lets = [(place, rule) for place in sorted(rules.graph) for rule in rules.lets(place)]
                if lets:
                    found = lets[0]
                    break
            if found is None:
                return True, tuple(turns)
            turns.append(found)
            program = without(program, found[0])

    def alike(self, program, told, answers):
        """Sees that by these answers what the program became runs as it did."""
        one, other = run(program, answers, 250), run(told, answers, 250)
        if one[0] == "on" and one[2] == 250:
            return
        self.assertEqual((one[0], told_of(one)), (other[0], told_of(other)))
        if one[0] == "fault":
            self.assertEqual(one[1], other[1])
        self.assertLessEqual(self.worths_left(other), self.worths_left(one))

    @staticmethod
    def worths_left(told):
        return {(place[0], box, worth) for place, box, worths in left_of(told) for worth in worths}


class TestShorter(ShorterCase):

    def turns(self, text, left, *turns):
        with self.subTest(text=text):
            program = read_program(text)
            self.assertEqual(show_program(self.right(program)), left)
            self.assertEqual(shorter(program)[1], turns)

    def test_none(self):
        for text in ("main { }", "main { take x w tell x wipe x }", "def d ( p ) ( p ) { tell p }\nmain { }"):
            self.turns(text, text)

    def test_by_places_then_by_rules(self):
        self.turns("main { copy x x }", "main { }", (("", 0), "same"))
        self.turns("main { wipe x wipe x wipe x }", "main { wipe x }", (("", 0), "twice"), (("", 0), "twice"))
        self.turns("main { copy x x number x 5 tell x }", "main { number x 5 tell x }", (("", 0), "same"))
        self.turns("main { number x 5 number x 6 }", "main { }", (("", 0), "covered"), (("", 0), "unread"))
        self.turns("main { number x 5 tell x number x 6 wipe x wipe x }", "main { number x 5 tell x wipe x }",
                   (("", 2), "covered"), (("", 2), "twice"))
        # A later turn lets an earlier word go: from then on that one is the first.
        self.turns("main { number x 5 copy y x }", "main { }", (("", 1), "unread"), (("", 0), "unread"))
        self.turns("main { number x 5 copy y x copy z y tell w }", "main { tell w }",
                   (("", 2), "unread"), (("", 1), "unread"), (("", 0), "unread"))

    def test_inner_places(self):
        self.turns("main { choose { number x 5 | copy y y } loop { number z 1 } }", "main { choose { | } loop { } }",
                   (("", 0, 0, 0), "unread"), (("", 0, 1, 0), "same"), (("", 1, 0, 0), "unread"))

    def test_defs_first(self):
        self.turns(
            "def e ( ) ( ) { number x 1 }\ndef d ( p ) ( r ) { number q 5 copy r p wipe p copy q r }\n"
            "main { number a 1 call d ( x ) ( y ) number z 5 }",
            "def e ( ) ( ) { }\ndef d ( p ) ( r ) { copy r p wipe p }\nmain { call d ( x ) ( y ) }",
            (("e", 0), "unread"), (("d", 0), "unread"), (("d", 2), "unread"), (("", 0), "unread"), (("", 1), "unread"),
        )

    def test_a_def_made_shorter_counts_for_those_that_call_it(self):
        # Its copy of p into q is gone then, and with it what stays.
        text = "def d ( p ) ( ) { copy q p wipe p }\nmain { take x w call d ( x ) ( ) }"
        self.assertIs(is_let_by(read_program(text)), False)
        self.turns(text, "def d ( p ) ( ) { wipe p }\nmain { take x w call d ( x ) ( ) }", (("d", 0), "unread"))
        self.assertIs(is_let_by(shorter(read_program(text))[0]), True)

    def test_no_wipe_that_counts_goes(self):
        for text in ("main { take x w wipe x }", "main { take x w number x 0 }", "main { take x w copy x y }",
                     "main { take x w open x x }", "def d ( p ) ( ) { number p 5 }\nmain { }"):
            self.turns(text, text)

    def test_by_chance(self):
        chance = random.Random(92)
        many = set()
        for _ in range(250):
            program = made_program(chance, most_defs=3, deep=3)
            told = self.right(program)
            turns = shorter(program)[1]
            self.assertEqual(size_of(told), size_of(program) - len(turns))
            self.assertEqual(shorter(told), (told, ()))
            if is_let_by(program):
                self.assertIs(is_let_by(told), True)
            for _ in range(4):
                answers = tuple(chance.choice((0, 0, 1, 1, 2, 3, 9999)) for _ in range(14))
                try:
                    run(program, answers, 250)
                except WipeError:
                    continue
                self.alike(program, told, answers)
            many.add(min(len(turns), 5))
        self.assertEqual(many, {0, 1, 2, 3, 4, 5})

    def test_with_defs_put_in_place(self):
        chance = random.Random(93)
        for _ in range(25):
            try:
                placed = in_place(made_program(chance, most_defs=2, deep=2))
            except WipeError:
                continue
            told = shorter(placed)[0]
            self.assertEqual(shorter(told), (told, ()))
            self.alike(placed, told, (0,) * 20)


def size_of(program):
    return words_in(program[1]) + sum(words_in(one[3]) for one in program[0])


if __name__ == "__main__":
    unittest.main()
