"""Point [4]: names and boxes; of [2], what "of anything" means."""

import copy
import unittest

from things import no_texts
from wipeways.names import in_record, is_box, is_name

TONGUE = (
    "take ask number copy mix open tell wipe clear drop choose loop out risk fault call back def main"
).split()

NAMES = (
    "a", "z", "m", "ab", "key", "abcdefg", "abcdefgh", "zzzzzzzz", "ijklmnop", "qrstuvwx", "yz",
    # Words that begin or end with one of the tongue, or have one within.
    "takes", "asks", "numbers", "copying", "mixer", "opened", "teller", "wiped", "clears", "dropped",
    "choosee", "loops", "outer", "risky", "faulty", "calls", "backs", "defs", "mains", "domain",
    "intake", "bask", "amix", "reopen", "retell", "unclear", "raindrop", "bout", "recall", "aback", "undef",
    "tak", "ake", "numbe", "umber", "choos", "faul", "mai", "de", "ef",
    # Words that this package uses elsewhere, but the tongue doesn't have.
    "row", "rows", "box", "boxes", "name", "whole", "called", "desk", "show", "look", "short", "code",
    "lay", "fetch", "clean", "hand", "slot", "true", "none",
)

NO_NAMES = (
    "", "abcdefghi", "zzzzzzzzz", "abcdefghij", "a" * 6500,
    "A", "Z", "Key", "kEy", "keY", "KEY", "TAKE", "Take",
    "0", "9", "a0", "0a", "k3y", "12",
    " ", " a", "a ", "a b", "a  b", "\t", "a\t",
    "\n", "a\n", "\na", "a\nb", "abcdefgh\n", "a\r", "a\r\n", "take\n",
    "_", "a_b", "-", "a-b", "@a", "a@", "`", "{", "a{", "|", "~", "(", "a)", "/", "[", "'", '"', "\\", "a,b", "!",
    ".", "a.", ".a", "a.b", "key.low", "..",
    "\u00e4", "a\u00e9", "\u00df", "\u0430", "\uff41", "\u00aa", "\x00", "a\x00", "\u0131", "\u2028", "a\u200b",
)

BOXES = NAMES + (
    "key.low", "a.b", "a.a", "abcdefgh.abcdefgh", "a.abcdefgh", "abcdefgh.a", "z.z",
    "takes.tells", "intake.outer", "domain.mains",
)

NO_BOXES = tuple(text for text in NO_NAMES if text not in ("a.b", "key.low")) + (
    "a..b", "a.b.c", "a.b.", ".a.b", "..a", "a..", "a.b.c.d", "...", "a...b", ".a.", "key.low.",
    "abcdefghi.a", "a.abcdefghi", "A.b", "a.B", "a.1", "1.a", "a. b", "a .b", " a.b", "a.b ", "a.b\n", "a\n.b", "a.\nb",
    "\na.b", "a,b", "a:b", "a/b", "a.b_", "\u00e4.b", "a.\u00e4", "a\u2024b",
)


class TestIsName(unittest.TestCase):

    def test_names(self):
        for text in NAMES:
            with self.subTest(text=text):
                self.assertIs(is_name(text), True)

    def test_each_letter(self):
        for letter in "abcdefghijklmnopqrstuvwxyz":
            for text in (letter, "qq" + letter, letter + "qq", "q" + letter + "q"):
                with self.subTest(text=text):
                    self.assertIs(is_name(text), True)
                    self.assertIs(is_box(text), True)

    def test_each_other_sign(self):
        for number in list(range(0, 0x300)) + [0x430, 0xff41, 0x2028]:
            sign = chr(number)
            if sign not in "abcdefghijklmnopqrstuvwxyz":
                for text in (sign, sign + "q", "q" + sign, "q" + sign + "q"):
                    with self.subTest(text=text):
                        self.assertIs(is_name(text), False)

    def test_each_length(self):
        for many in range(0, 30):
            with self.subTest(many=many):
                self.assertIs(is_name("k" * many), 1 <= many <= 8)

    def test_no_names(self):
        for text in NO_NAMES:
            with self.subTest(text=text[:20]):
                self.assertIs(is_name(text), False)

    def test_each_word_of_the_tongue(self):
        self.assertEqual(len(TONGUE), 19)
        for word in TONGUE:
            with self.subTest(word=word):
                self.assertIs(is_name(word), False)

    def test_words_that_begin_or_end_with_one_of_the_tongue(self):
        for word in TONGUE:
            for text in (word + "q", "q" + word, "q" + word + "q", word[:-1] + "q", "q" + word[1:]):
                with self.subTest(text=text):
                    self.assertIs(is_name(text), len(text) <= 8)

    def test_no_texts(self):
        for thing in no_texts():
            with self.subTest(kind=type(thing)):
                self.assertIs(is_name(thing), False)


class TestIsBox(unittest.TestCase):

    def test_boxes(self):
        for text in BOXES:
            with self.subTest(text=text):
                self.assertIs(is_box(text), True)

    def test_no_boxes(self):
        for text in NO_BOXES:
            with self.subTest(text=text[:20]):
                self.assertIs(is_box(text), False)

    def test_each_length_on_either_side(self):
        for left in range(0, 12):
            for right in range(0, 12):
                with self.subTest(left=left, right=right):
                    right_box = 1 <= left <= 8 and 1 <= right <= 8
                    self.assertIs(is_box("k" * left + "." + "m" * right), right_box)

    def test_dots(self):
        for many in range(0, 6):
            with self.subTest(many=many):
                self.assertIs(is_box(".".join(["key"] * (many + 1))), many <= 1)

    def test_other_signs_in_the_stead_of_the_dot(self):
        for number in range(0, 0x300):
            sign = chr(number)
            if sign != "." and sign not in "abcdefghijklmnopqrstuvwxyz":
                with self.subTest(sign=sign):
                    self.assertIs(is_box("key" + sign + "low"), False)

    def test_other_signs_beside_the_dot(self):
        for number in range(0, 0x300):
            sign = chr(number)
            if sign not in "abcdefghijklmnopqrstuvwxyz":
                for text in (sign + "y.low", "ke" + sign + ".low", "key." + sign + "w", "key.lo" + sign):
                    with self.subTest(text=text):
                        self.assertIs(is_box(text), False)

    def test_words_of_the_tongue(self):
        for word in TONGUE:
            for text in (word, word + ".low", "key." + word, word + "." + word, word + ".", "." + word):
                with self.subTest(text=text):
                    self.assertIs(is_box(text), False)

    def test_words_that_begin_or_end_with_one_of_the_tongue(self):
        for word in TONGUE:
            for text in (word + "q", "q" + word):
                with self.subTest(text=text):
                    self.assertIs(is_box(text + ".low"), len(text) <= 8)
                    self.assertIs(is_box("key." + text), len(text) <= 8)

    def test_no_texts(self):
        for thing in no_texts():
            with self.subTest(kind=type(thing)):
                self.assertIs(is_box(thing), False)


class TestInRecord(unittest.TestCase):

    def test_a_box_of_the_record(self):
        for box, name in (("key.low", "key"), ("key.key", "key"), ("a.b", "a"), ("abcdefgh.a", "abcdefgh")):
            with self.subTest(box=box, name=name):
                self.assertIs(in_record(box, name), True)

    def test_the_box_with_the_name_of_the_record(self):
        for name in ("key", "a", "abcdefgh"):
            with self.subTest(name=name):
                self.assertIs(in_record(name, name), False)

    def test_records_whose_names_begin_alike(self):
        for box, name in (
            ("keys.low", "key"), ("key.low", "keys"), ("keys", "key"), ("key", "keys"),
            ("ke.low", "key"), ("key.low", "ke"), ("key.low", "k"), ("aa.a", "a"), ("a.a", "aa"),
        ):
            with self.subTest(box=box, name=name):
                self.assertIs(in_record(box, name), False)

    def test_records_whose_names_end_alike(self):
        for box, name in (("monkey.low", "key"), ("key.low", "monkey"), ("key.low", "ey"), ("monkey", "key")):
            with self.subTest(box=box, name=name):
                self.assertIs(in_record(box, name), False)

    def test_the_name_behind_the_dot_plays_no_part(self):
        for box, name in (("low.key", "key"), ("key.low", "low"), ("a.b", "b"), ("a.keys", "key")):
            with self.subTest(box=box, name=name):
                self.assertIs(in_record(box, name), False)

    def test_other_boxes(self):
        self.assertIs(in_record("door", "key"), False)
        self.assertIs(in_record("door.low", "key"), False)


class TestAsked(unittest.TestCase):

    def test_nothing_is_changed(self):
        things = no_texts()
        kept = copy.deepcopy(things)
        for thing in things:
            is_name(thing)
            is_box(thing)
        self.assertEqual(things, kept)

    def test_the_same_is_told_the_same(self):
        asked = list(NAMES) + list(NO_NAMES) + list(BOXES) + list(NO_BOXES) + TONGUE + no_texts()
        first = [(is_name(thing), is_box(thing)) for thing in asked]
        again = [(is_name(thing), is_box(thing)) for thing in reversed(asked)]
        self.assertEqual(first, again[::-1])


if __name__ == "__main__":
    unittest.main()
