"""Point [20]: codes told for straight rows; of [3], that they tell what the row tells and leave nothing."""

import copy
import random
import unittest

from things import made_straight, main_row
from wipeways.codes import code_holds, is_code, run_code
from wipeways.errors import NoCode, WipeError
from wipeways.laying import coded
from wipeways.runs import run

LETTERS = "abcdefghijklmnopqrstuvwxyz"


class LayingCase(unittest.TestCase):

    def holds(self, row, hands, chance=random.Random(51)):
        """Sees that a code is told that holds for the row; returns it."""
        kept = copy.deepcopy(row)
        code = coded(row, hands)
        self.assertEqual(row, kept)
        self.assertEqual(code, coded(row, hands))
        self.assertIs(is_code(hands, code), True)
        self.assertIs(code_holds(row, hands, code), True)
        answers = tuple(chance.randrange(10000) for _ in range(len(row)))
        end = run(((), row), answers, 400)
        self.assertEqual(run_code(code, answers), (end[2], ()))
        return code

    def refused(self, row, hands):
        with self.assertRaises(WipeError) as raised:
            coded(row, hands)
        self.assertIs(type(raised.exception), NoCode)


class TestCoded(LayingCase):

    def test_rows(self):
        for text in ("", "tell x", "wipe x", "take x w wipe x", "ask x tell x", "number x 0 tell x", "copy x x tell x",
                     "number x 9999 copy y x tell y", "take x w copy y x copy z y wipe x wipe y open z z tell z",
                     "take x w mix y x x open z y wipe x tell z wipe y", "ask x mix x x x mix x x x tell x",
                     "take x w take x u ask x tell x", "ask x tell x tell x wipe x tell x", "mix x y z tell x",
                     "ask x wipe x mix x x x tell x", "ask x copy y x mix x x y mix y x y tell y tell x",
                     "ask x number y 7 number z 8 mix a x y mix b y z mix c z x mix a a b mix a a c tell a tell x"):
            for hands in range(3, 9):
                with self.subTest(row=text, hands=hands):
                    self.holds(main_row(text), hands)

    def test_more_told_than_hands(self):
        for many in range(1, 14):
            row = tuple(("ask", box) for box in LETTERS[:many]) + tuple(("tell", box) for box in LETTERS[:many])
            back = tuple(("ask", box) for box in LETTERS[:many]) + tuple(("tell", box) for box in LETTERS[many::-1])
            for hands in range(3, 9):
                with self.subTest(many=many, hands=hands):
                    self.holds(row, hands)
                    self.holds(back, hands)

    def test_thirteen_worths_at_once(self):
        takes = tuple(("take", box, "w") for box in LETTERS[:13])
        mixes = tuple(("mix", box, box, LETTERS[12 - at]) for at, box in enumerate(LETTERS[:13]))
        wipes = tuple(("wipe", box) for box in LETTERS[:13])
        for hands in range(3, 9):
            self.holds(takes + mixes + wipes, hands)
            self.holds(takes + (("mix", "x", "a", "m"), ("open", "x", "x"), ("tell", "x")) + wipes, hands)

    def test_worths_in_slots_are_cleaned(self):
        takes = tuple(("take", box, "w") for box in LETTERS[:10])
        tells = tuple(word for box in LETTERS[:10] for word in (("open", "z", box), ("tell", "z"), ("wipe", box)))
        for hands in range(3, 9):
            for row in (takes + tells, takes + tuple(("tell", box) for box in LETTERS[9::-1]) + tells[2::3]):
                code = self.holds(row, hands)
                laid = {order[1] for order in code if order[0] == "lay"}
                self.assertGreater(len(laid), 0)
                self.assertEqual({order[1] for order in code if order[0] == "clean"}, laid)

    def test_no_order_is_wasted(self):
        for text, code in (
            ("tell x", "tell"),
            ("ask x tell x copy y x tell y wipe x", "ask tell tell"),
            # What is asked no more is written over, and what is made already isn't made again.
            ("ask a ask b ask c mix a a b mix a a c tell a", "ask ask ask mix mix tell"),
            ("ask x mix y x x tell y mix z x x tell z", "ask mix tell tell"),
            ("ask x mix y x x tell y mix z x x", "ask mix tell"),
            ("number x 5 number y 5 tell x tell y number y 6 tell y", "number tell tell number tell"),
            # A worth is laid in a slot once, however often it is fetched.
            ("ask a ask b ask c ask d tell a tell b tell c tell d", "ask ask ask lay ask tell tell fetch tell tell"),
        ):
            with self.subTest(row=text):
                self.assertEqual([order[0] for order in self.holds(main_row(text), 3)], code.split())

    def test_laid_once_however_often_it_is_fetched(self):
        asks = tuple(("ask", box) for box in LETTERS[:6])
        code = self.holds(asks + tuple(("tell", box) for box in LETTERS[:6]) * 5, 3)
        laid = [order[1] for order in code if order[0] == "lay"]
        self.assertLessEqual(len(laid), 6)
        self.assertEqual(len(set(laid)), len(laid))

    def test_a_form_in_a_slot_is_not_made_again(self):
        row = main_row("ask a ask b mix x a b ask c ask d ask e tell c tell d tell e mix w a b tell w tell a tell b")
        for hands in range(3, 9):
            self.assertEqual([order[0] for order in self.holds(row, hands)].count("mix"), 1)

    def test_more_boxes_than_hands_and_slots(self):
        boxes = ["x." + one + other for one in LETTERS[:5] for other in LETTERS]
        row = tuple(("mix", *boxes[3 * at:3 * at + 3]) for at in range(39)) + (("tell", boxes[0]),)
        self.assertGreater(len({box for word in row for box in word[1:]}), 60 + 8)
        copies = (("ask", boxes[0]),) + tuple(("copy", boxes[at + 1], boxes[at]) for at in range(38))
        for hands in range(3, 9):
            self.holds(row, hands)
            self.holds(copies + (("tell", boxes[38]),), hands)

    def test_what_is_made_and_never_told_is_wiped_too(self):
        code = self.holds(main_row("take x w mix y x x mix y y x wipe x wipe y"), 3)
        self.assertEqual([order[0] for order in code], ["take", "wipe"])

    def test_by_chance(self):
        chance = random.Random(52)
        for many in range(41):
            for hands in range(3, 9):
                boxes = [one + other for one in ("", "k.", "key.") for other in LETTERS]
                boxes = chance.sample(boxes, chance.choice((1, 2, 3, 5, 8, 13, 60)))
                row = made_straight(chance, many, boxes)
                with self.subTest(row=row, hands=hands):
                    code = self.holds(row, hands, chance)
                    self.assertLessEqual(len(code), 300)

    def test_somewhat_longer_rows(self):
        chance = random.Random(53)
        for _ in range(30):
            row = made_straight(chance, chance.randrange(41, 90), LETTERS[:chance.randrange(2, 27)])
            self.holds(row, chance.randrange(3, 9), chance)


class TestNoCode(LayingCase):

    def test_rows_that_are_not_straight(self):
        for text in ("clear r", "drop ( x )", "choose { | }", "loop { }", "loop { out 1 }", "risk f", "fault f", "back",
                     "tell x choose { tell x }", "take x w wipe x back", "take x w clear x"):
            for hands in (3, 8):
                with self.subTest(row=text):
                    self.refused(main_row(text), hands)

    def test_rows_that_call(self):
        self.refused((("call", "d", (), ()),), 3)
        self.refused((("take", "x", "w"), ("call", "d", ("x",), ())), 3)

    def test_rows_that_leave_something(self):
        for text in ("take x w", "take x w copy y x wipe x", "take x w mix y z x wipe x", "take x w mix y x z wipe x",
                     "take x w open y x", "take x w wipe x take x w", "take x w copy x x tell x",
                     "ask y take x w copy z x ask x tell y"):
            for hands in (3, 8):
                with self.subTest(row=text):
                    self.refused(main_row(text), hands)

    def test_more_at_once_than_hands_and_slots_can_keep(self):
        # Far longer than rows here are: nothing is promised of them, but this is how they are refused.
        boxes = ["x." + one + other for one in LETTERS[:3] for other in LETTERS]
        for many in (63, 64, 68, 69):
            row = tuple(("ask", box) for box in boxes[:many]) + tuple(("tell", box) for box in boxes[:many])
            for hands in (3, 8):
                if many <= 60 + hands:
                    self.holds(row, hands)
                else:
                    self.refused(row, hands)

    def test_by_chance(self):
        chance = random.Random(54)
        for _ in range(300):
            row = made_straight(chance, chance.randrange(2, 20), ("a", "b", "c"))
            less = row[:chance.randrange(len(row))]
            end = run(((), less), (0,) * len(less), 400)
            if end[3]:
                self.refused(less, 3)
            else:
                self.holds(less, 3)


if __name__ == "__main__":
    unittest.main()
