"""Points [18], [19]: codes, how they run, and whether they hold for a straight row."""

import copy
import random
import unittest

from things import deep, made_straight, main_row, no_texts
from wipeways.codes import code_holds, is_code, run_code
from wipeways.errors import NoAnswer
from wipeways.laying import coded
from wipeways.runs import run

# Of each kind of order one for three hands.
ORDERS = (
    ("take", 0, "w"), ("ask", 1), ("number", 2, 5), ("copy", 0, 1), ("mix", 0, 1, 2), ("open", 2, 0), ("tell", 1),
    ("wipe", 2), ("lay", 0, 1), ("fetch", 2, 59), ("clean", 3),
)

# Which parts of an order are hands, and which are slots.
HANDS = {
    "take": (1,), "ask": (1,), "number": (1,), "copy": (1, 2), "mix": (1, 2, 3), "open": (1, 2), "tell": (1,),
    "wipe": (1,), "lay": (2,), "fetch": (1,), "clean": (),
}
SLOTS = {"lay": (1,), "fetch": (2,), "clean": (1,)}


def code_of(text):
    """A code written like a row, its orders parted by commas."""
    parts = [order.split(" ") for order in text.split(", ")] if text else []
    return tuple((kind, *[int(part) if part.isdigit() else part for part in rest]) for kind, *rest in parts)


def with_part(order, at, part):
    return order[:at] + (part,) + order[at + 1:]


def bad_wholes():
    return [True, False, -1, "0", "a", 1.0, None, (0,), [0], 10 ** 5000, -10 ** 5000]


class TestIsCode(unittest.TestCase):

    def test_each_kind_of_order(self):
        for hands in range(3, 9):
            self.assertIs(is_code(hands, ()), True)
            self.assertIs(is_code(hands, ORDERS), True)
            for order in ORDERS:
                with self.subTest(hands=hands, order=order):
                    self.assertIs(is_code(hands, (order,)), True)

    def test_hands_at_both_ends(self):
        for hands in range(3, 9):
            for order in ORDERS:
                for at in HANDS[order[0]]:
                    with self.subTest(hands=hands, order=order, at=at):
                        self.assertIs(is_code(hands, (with_part(order, at, 0),)), True)
                        self.assertIs(is_code(hands, (with_part(order, at, hands - 1),)), True)
                        self.assertIs(is_code(hands, (with_part(order, at, hands),)), False)
                        self.assertIs(is_code(hands, ORDERS + (with_part(order, at, -1),)), False)

    def test_slots_at_both_ends(self):
        for order in ORDERS:
            for at in SLOTS.get(order[0], ()):
                with self.subTest(order=order):
                    self.assertIs(is_code(3, (with_part(order, at, 0),)), True)
                    self.assertIs(is_code(3, (with_part(order, at, 59),)), True)
                    self.assertIs(is_code(8, (with_part(order, at, 60),)), False)
                    self.assertIs(is_code(8, (with_part(order, at, -1),)), False)

    def test_numbers_at_both_ends(self):
        for number, right in ((0, True), (9999, True), (10000, False), (-1, False), (10 ** 5000, False)):
            self.assertIs(is_code(3, (("number", 0, number),)), right)

    def test_parts_of_other_kinds(self):
        for order in ORDERS:
            for at in range(1, len(order)):
                if order[at] == "w":
                    continue
                for part in bad_wholes():
                    with self.subTest(order=order, at=at):
                        self.assertIs(is_code(8, (with_part(order, at, part),)), False)
        for part in no_texts() + ["", "take", "W", "a.b", "abcdefghi", "w ", "fetch.a"]:
            self.assertIs(is_code(8, (("take", 0, part),)), False)
        self.assertIs(is_code(8, (("take", 0, "fetch"), ("take", 0, "lay"))), True)

    def test_boxes_in_the_stead_of_hands(self):
        for word in main_row("take x w ask x number x 5 copy x y mix x y z open x y tell x wipe x"):
            self.assertIs(is_code(3, (word,)), False)

    def test_words_that_are_no_orders(self):
        words = [("clear", "r"), ("drop", (0,)), ("choose", ((),)), ("loop", ()), ("out", 1), ("risk", "f")]
        words += [("fault", "f"), ("call", "d", (), ()), ("back",), ("put", 0), ("", 0), ("Take", 0, "w")]
        for word in words:
            with self.subTest(word=word):
                self.assertIs(is_code(3, (word,)), False)

    def test_a_part_less_or_more(self):
        for order in ORDERS:
            with self.subTest(order=order):
                self.assertIs(is_code(3, (order[:-1],)), False)
                self.assertIs(is_code(3, (order + (0,),)), False)
                self.assertIs(is_code(3, (list(order),)), False)
                self.assertIs(is_code(3, list((order,))), False)
                self.assertIs(is_code(3, order), False)
                self.assertIs(is_code(3, (ORDERS,)), False)

    def test_of_anything(self):
        for thing in no_texts() + ["", "take", "tell 0", deep(20)]:
            with self.subTest(thing=str(thing)[:40] if not isinstance(thing, int) else "a number"):
                self.assertIs(is_code(3, thing), thing == () and isinstance(thing, tuple))
                self.assertIs(is_code(3, (thing,)), False)
                self.assertIs(is_code(3, ((thing, 0),)), False)

    def test_long_codes(self):
        self.assertIs(is_code(3, (("tell", 0),) * 400), True)


class TestRunCode(unittest.TestCase):

    def runs(self, text, answers, told, left=()):
        with self.subTest(code=text, answers=answers):
            code = code_of(text)
            self.assertEqual(run_code(code, answers), (told, left))
            self.assertEqual(run_code(code, answers), (told, left))

    def test_orders(self):
        self.runs("", (), ())
        self.runs("tell 0", (), (0,))
        self.runs("take 0 w, tell 0, wipe 0, tell 0", (7,), (7, 0))
        self.runs("ask 2, tell 2", (9999,), (9999,))
        self.runs("number 1 9999, tell 1", (), (9999,))
        self.runs("number 0 3, copy 1 0, tell 1, tell 0", (), (3, 3))
        self.runs("ask 0, ask 1, mix 2 0 1, tell 2", (10, 100), (210,))
        self.runs("ask 0, mix 0 0 0, tell 0", (9999,), (9983,))
        self.runs("ask 0, open 0 0, tell 0", (9,), (1,))
        self.runs("ask 0, lay 59 0, number 0 1, fetch 1 59, tell 0, tell 1", (5,), (1, 5))
        self.runs("ask 0, lay 0 0, clean 0, fetch 0 0, tell 0", (5,), (0,))
        # A hand and a slot of the same number are two.
        self.runs("ask 1, lay 1 1, wipe 1, tell 1, fetch 2 1, clean 1, tell 2", (5,), (0, 5))

    def test_what_is_left(self):
        self.runs("take 7 w", (0,), (), (("hand", 7, ("w",)),))
        self.runs("take 1 w, lay 30 1, lay 4 1, take 0 u, mix 1 1 0", (1, 2), (), (
            ("hand", 0, ("u",)), ("hand", 1, ("u", "w")), ("slot", 4, ("w",)), ("slot", 30, ("w",)),
        ))
        self.runs("take 2 w, lay 10 2, lay 9 2, wipe 2", (1,), (), (("slot", 9, ("w",)), ("slot", 10, ("w",))))
        self.runs("take 0 w, open 1 0, lay 1 1, wipe 0", (3,), ())
        self.runs("take 0 w, lay 1 0, clean 1, number 0 9", (3,), ())
        self.runs("take 0 w, take 1 w, mix 2 0 1, wipe 0, wipe 1", (3, 4), (), (("hand", 2, ("w",)),))
        self.runs("take 0 w, lay 1 0, fetch 2 1, wipe 0, clean 1", (3,), (), (("hand", 2, ("w",)),))
        self.runs("take 0 w, ask 0", (3, 4), ())

    def refused(self, text, answers, number):
        with self.subTest(code=text, number=number):
            with self.assertRaises(NoAnswer) as raised:
                run_code(code_of(text), answers)
            self.assertEqual(raised.exception.number, number)

    def test_answers_that_lack(self):
        text = "take 0 w, tell 0, ask 1, tell 1, take 0 u, wipe 0"
        self.runs(text, (1, 2, 3), (1, 2))
        for many in range(3):
            self.refused(text, (1, 2, 3)[:many], many)

    def test_answers_that_are_more(self):
        for more in no_texts() + ["a", -1, 10000]:
            self.runs("take 0 w, tell 0, wipe 0", (1, more, more), (1,))
        self.runs("tell 0", (None,), (0,))

    def test_answers_that_cannot_be_given(self):
        for answer in no_texts() + ["a", "1", "", 10000, 1.0]:
            if isinstance(answer, int) and not isinstance(answer, bool) and 0 <= answer <= 9999:
                continue
            self.refused("take 0 w, ask 1, wipe 0", (answer, 0), 0)
            self.refused("take 0 w, ask 1, wipe 0", (0, answer), 1)
            # The first one of two goes first, also ahead of one that lacks.
            self.refused("take 0 w, ask 1, wipe 0", (answer, answer), 0)
            self.refused("take 0 w, ask 1, wipe 0", (answer,), 0)

    def test_as_a_row_of_boxes_runs(self):
        chance = random.Random(41)
        for _ in range(200):
            code = tuple(chance.choice(made_orders(chance, 8)) for _ in range(chance.randrange(30)))
            answers = tuple(chance.randrange(10000) for _ in range(30))
            told, left = run_code(code, answers)
            end = run(((), as_boxes(code)), answers, 400)
            self.assertEqual(told, end[2])
            self.assertEqual(sorted(left), sorted((*name_of(box), worths) for place, box, worths in end[3]))
            self.assertEqual(left, tuple(sorted(left)))


def made_orders(chance, hands):
    h, i, j = (chance.randrange(hands) for _ in range(3))
    s = chance.randrange(12)
    return [
        ("take", h, chance.choice(("u", "w"))), ("take", h, "v"), ("ask", h), ("number", h, 8), ("copy", h, i),
        ("mix", h, i, j), ("open", h, i), ("tell", h), ("wipe", h), ("lay", s, h), ("fetch", h, s), ("clean", s),
    ]


LETTERS = "abcdefghijklmnopqrstuvwxyz"


def as_boxes(code):
    """The code as a row: boxes hand.a, slot.ab for the hand 0, the slot 1."""
    words = {"lay": "copy", "fetch": "copy", "clean": "wipe"}
    row = []
    for kind, *parts in code:
        for at, part in enumerate(parts):
            if at + 1 in HANDS[kind]:
                parts[at] = "hand." + LETTERS[part]
            elif at + 1 in SLOTS.get(kind, ()):
                parts[at] = "slot." + LETTERS[part // 26] + LETTERS[part % 26]
        row.append((words.get(kind, kind), *parts))
    return tuple(row)


def name_of(box):
    number = 0
    for letter in box[5:]:
        number = 26 * number + LETTERS.index(letter)
    return (box[:4], number)


def seen_of(row):
    """What the outer world sees of a straight row, forms written out; and what the boxes hold at its end."""
    held, seen = {}, []
    zero = ("number", 0)
    for word in row:
        kind, box = word[0], word[1]
        forms = [held.get(part, zero) for part in word[2:]]
        if kind in ("take", "ask"):
            held[box] = (kind, len(seen))
            seen.append((kind, word[2:]))
        elif kind == "tell":
            seen.append((kind, held.get(box, zero)))
        else:
            held[box] = {"number": ("number", word[-1]), "copy": forms and forms[0], "wipe": zero}.get(
                kind, (kind, *forms))
    return seen, held


def has_worth(form):
    if form[0] == "mix":
        return has_worth(form[1]) or has_worth(form[2])
    return form[0] == "take"


def holds(row, code):
    """Whether the code holds for the row, by forms written out."""
    code_seen, held = seen_of(as_boxes(code))
    return code_seen == seen_of(row)[0] and not any(has_worth(form) for form in held.values())


class TestCodeHolds(unittest.TestCase):

    def holds(self, row, code, right=True, hands=3):
        with self.subTest(row=row, code=code):
            self.assertIs(code_holds(main_row(row), hands, code_of(code)), right)
            self.assertIs(holds(main_row(row), code_of(code)), right)

    def test_codes_that_hold(self):
        self.holds("", "")
        self.holds("tell x", "tell 0")
        self.holds("take x w tell x wipe x", "take 0 w, tell 0, wipe 0")
        self.holds("take x w tell x wipe x", "take 2 w, lay 59 2, wipe 2, fetch 1 59, tell 1, wipe 1, clean 59")
        self.holds("take x w tell x wipe x", "take 2 w, copy 1 2, number 2 0, tell 1, ask 0, wipe 1", False)
        self.holds("ask x ask y mix z x y tell z", "ask 1, lay 3 1, ask 2, fetch 0 3, mix 0 0 2, tell 0")
        self.holds("ask x open y x tell y", "ask 1, open 1 1, tell 1")
        # What nothing tells plays no part, on either side.
        self.holds("ask x open y x number z 5 mix z x y", "ask 0, number 1 7, mix 2 1 0, open 0 0")
        self.holds("take x w wipe x", "take 0 w, number 0 5")
        # The row leaves something; what is asked is whether the code does.
        self.holds("take x w", "take 0 w, wipe 0")

    def test_the_number_0(self):
        for row in ("tell x", "number x 0 tell x", "ask y wipe y tell y", "ask y copy y x tell y"):
            for code in ("tell 2", "number 1 0, tell 1", "wipe 0, tell 0", "fetch 0 9, tell 0", "clean 9, fetch 1 9, tell 1"):
                code = "ask 2, lay 8 2, wipe 2, " + code if "ask" in row else code
                self.holds(row, code)
        self.holds("tell x", "number 0 1, tell 0", False)
        # What is made of it is no number.
        self.holds("mix x y y tell x", "tell 0", False)
        self.holds("open x y tell x", "tell 0", False)
        self.holds("mix x y y tell x", "number 0 0, lay 4 1, fetch 2 4, mix 1 0 2, tell 1")
        self.holds("number x 5 open x x tell x", "number 0 1, tell 0", False)

    def test_takes_and_asks_are_told_apart(self):
        self.holds("ask x tell x", "take 0 w, tell 0, wipe 0", False)
        self.holds("take x w tell x wipe x", "ask 0, tell 0", False)
        self.holds("take x w tell x wipe x", "take 0 u, tell 0, wipe 0", False)
        self.holds("take x w ask y wipe x", "ask 0, take 1 w, wipe 1", False)
        self.holds("ask x ask y tell x", "ask 0, ask 1, tell 1", False)
        self.holds("ask x ask y tell x", "ask 1, ask 0, tell 1")
        self.holds("ask x ask x tell x", "ask 0, ask 1, tell 1")
        self.holds("ask x tell x", "ask 0, ask 0, tell 0", False)
        self.holds("ask x ask y tell x", "ask 0, tell 0, ask 1", False)

    def test_forms(self):
        self.holds("ask x ask y mix z x y tell z", "ask 0, ask 1, mix 2 1 0, tell 2", False)
        self.holds("ask x ask y mix z x y tell z", "ask 0, ask 1, mix 2 0 0, tell 2", False)
        self.holds("ask x open x x open x x tell x", "ask 0, open 0 0, tell 0", False)
        self.holds("ask x mix y x x mix z y x tell z", "ask 0, mix 1 0 0, mix 1 1 0, tell 1")
        self.holds("ask x mix y x x mix z y x tell z", "ask 0, mix 1 0 0, mix 1 0 1, tell 1", False)
        self.holds("number x 5 tell x", "number 0 6, tell 0", False)
        # Made twice in the same way is the same.
        self.holds("ask x mix y x x mix z x x mix a y z tell a", "ask 0, mix 0 0 0, mix 0 0 0, tell 0")
        self.holds("ask x mix y x x tell y mix z x x tell z", "ask 0, mix 0 0 0, tell 0, tell 0")

    def test_worths_that_are_left(self):
        self.holds("take x w wipe x", "take 0 w", False)
        self.holds("take x w wipe x", "take 0 w, lay 0 0, wipe 0", False)
        self.holds("take x w wipe x", "take 0 w, copy 1 0, wipe 0", False)
        self.holds("take x w wipe x", "take 0 w, mix 1 2 0, wipe 0", False)
        self.holds("take x w wipe x", "take 0 w, mix 1 2 0, lay 59 1, wipe 0, wipe 1", False)
        self.holds("take x w wipe x", "take 0 w, open 1 0, lay 59 1, wipe 0")
        self.holds("take x w wipe x", "take 0 w, lay 0 0, clean 0, wipe 0")

    def test_things_that_are_no_codes(self):
        row = main_row("tell x")
        for thing in no_texts() + ["tell 0", [("tell", 0)], (["tell", 0],), (("tell", True),), (("tell", 3),)]:
            if thing != () or not isinstance(thing, tuple):
                self.assertIs(code_holds(row, 3, thing), False)
        self.assertIs(code_holds(row, 4, (("tell", 3),)), True)
        self.assertIs(code_holds((), 3, ()), True)
        self.assertIs(code_holds((), 3, []), False)
        self.assertIs(code_holds((), 3, (("lay", 60, 0),)), False)
        self.assertIs(code_holds((), 3, (("lay", 59, 0),)), True)

    def test_forms_that_double_are_answered_at_once(self):
        row = main_row("ask x " + "mix x x x " * 38 + "tell x")
        code = (("ask", 0),) + (("mix", 0, 0, 0), ("lay", 0, 0), ("fetch", 1, 0), ("copy", 0, 1)) * 38 + (("tell", 0),)
        self.assertIs(code_holds(row, 3, code), True)
        self.assertIs(code_holds(row, 3, code[:5] + code[9:]), False)
        self.assertIs(code_holds(row, 3, code[:-1] + (("mix", 0, 0, 0), ("tell", 0))), False)
        row = main_row("take x w " + "mix x x x " * 38 + "wipe x")
        self.assertIs(code_holds(row, 3, (("take", 0, "w"),) + (("mix", 0, 0, 0),) * 38 + (("wipe", 0),)), True)
        self.assertIs(code_holds(row, 3, (("take", 0, "w"),) + (("mix", 0, 0, 0),) * 38), False)

    def test_nothing_is_changed(self):
        row = main_row("take x w tell x wipe x")
        code = code_of("take 0 w, tell 0, wipe 0")
        kept = copy.deepcopy((row, code))
        self.assertIs(code_holds(row, 3, code), code_holds(row, 3, code))
        self.assertEqual((row, code), kept)


class TestBentCodes(unittest.TestCase):

    def bent(self, chance, code):
        """The code with one thing other than it was."""
        at = chance.randrange(len(code))
        order = code[at]
        bends = [code[:at] + code[at + 1:], code[:at] + (order,) + code[at:]]
        bends.append(code[:at] + (chance.choice(made_orders(chance, 4)),) + code[at:])
        if at > 0:
            bends.append(code[:at - 1] + (order, code[at - 1]) + code[at + 1:])
        for part in range(1, len(order)):
            other = "v" if isinstance(order[part], str) else chance.randrange(5)
            bends.append(code[:at] + (with_part(order, part, other),) + code[at + 1:])
        return chance.choice(bends)

    def test_by_chance(self):
        chance = random.Random(42)
        seen = {True: 0, False: 0}
        for _ in range(1500):
            row = made_straight(chance, chance.randrange(1, 12), ("a", "b", "c", "k.d")[:chance.randrange(1, 5)])
            code = coded(row, 4)
            if not code:
                continue
            bent = self.bent(chance, code)
            right = is_code(4, bent) and holds(row, bent)
            with self.subTest(row=row, code=bent):
                self.assertIs(code_holds(row, 4, bent), right)
            seen[right] += 1
        self.assertGreater(seen[True], 100)
        self.assertGreater(seen[False], 100)

    def test_each_bend_of_a_code(self):
        row = main_row("take x w ask y mix x x y open z x tell z number z 5 tell z wipe x")
        code = code_of(
            "take 0 w, lay 7 0, ask 1, fetch 2 7, mix 2 2 1, open 1 2, tell 1, number 1 5, tell 1, wipe 0, wipe 2, clean 7"
        )
        self.assertIs(code_holds(row, 3, code), True)
        for at in range(len(code)):
            less = code[:at] + code[at + 1:]
            with self.subTest(less=code[at]):
                self.assertIs(code_holds(row, 3, less), False)
        for at, order in ((0, ("take", 0, "u")), (0, ("ask", 0)), (1, ("lay", 8, 0)), (1, ("lay", 7, 1)),
                          (2, ("take", 1, "w")), (2, ("ask", 2)), (3, ("fetch", 1, 7)), (3, ("fetch", 2, 6)),
                          (4, ("mix", 2, 1, 2)), (4, ("mix", 1, 2, 1)), (5, ("open", 1, 1)), (5, ("copy", 1, 2)),
                          (6, ("tell", 2)), (7, ("number", 1, 6)), (7, ("number", 2, 5)), (8, ("tell", 0)),
                          (9, ("wipe", 1)), (11, ("clean", 8))):
            with self.subTest(order=order):
                self.assertIs(code_holds(row, 3, code[:at] + (order,) + code[at + 1:]), False)
        for more in (("tell", 1), ("ask", 1), ("take", 1, "w")):
            for at in range(len(code) + 1):
                with self.subTest(more=more, at=at):
                    self.assertIs(code_holds(row, 3, code[:at] + (more,) + code[at:]), False)


if __name__ == "__main__":
    unittest.main()
