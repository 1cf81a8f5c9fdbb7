"""Codes: orders for a machine of a few hands and slots, how they run, and whether they hold for a row."""

from wipeways.names import is_name
from wipeways.runs import Run, do_boxes
from wipeways.steps import PUTTING, asked_by, choices_of
from wipeways.words import MOST_NUMBER, is_whole

MOST_SLOTS = 60
STRAIGHT = ("take", "ask", "number", "copy", "mix", "open", "tell", "wipe")

# What stands behind the first part of each order.
ORDERS = {
    "take": ("hand", "name"),
    "ask": ("hand",),
    "number": ("hand", "number"),
    "copy": ("hand", "hand"),
    "mix": ("hand", "hand", "hand"),
    "open": ("hand", "hand"),
    "tell": ("hand",),
    "wipe": ("hand",),
    "lay": ("slot", "hand"),
    "fetch": ("hand", "slot"),
    "clean": ("slot",),
}

# The words that do with hands and slots what these orders do.
AS_WORDS = {"lay": "copy", "fetch": "copy", "clean": "wipe"}

NO_PROGRAM = ((), ())


def part_is_right(kind, part, hands):
    """Whether anything is a part of that kind of an order for so many hands."""
    if kind == "name":
        return is_name(part)
    if kind == "hand":
        return is_whole(part) and 0 <= part < hands
    if kind == "slot":
        return is_whole(part) and 0 <= part < MOST_SLOTS
    return is_whole(part) and 0 <= part <= MOST_NUMBER


def is_order(hands, thing):
    """Whether anything is an order for so many hands."""
    if not isinstance(thing, tuple) or len(thing) == 0:
        return False
    if not isinstance(thing[0], str) or thing[0] not in ORDERS:
        return False
    kinds = ORDERS[thing[0]]
    if len(thing) != len(kinds) + 1:
        return False
    return all(part_is_right(kind, part, hands) for kind, part in zip(kinds, thing[1:]))


def is_code(hands, thing):
    """Whether anything is a code for so many hands."""
    return isinstance(thing, tuple) and all(is_order(hands, order) for order in thing)


def as_word(order):
    """The order as a word, of which ("hand", number) and ("slot", number) are the boxes."""
    parts = [AS_WORDS.get(order[0], order[0])]
    for kind, part in zip(ORDERS[order[0]], order[1:]):
        parts.append((kind, part) if kind in ("hand", "slot") else part)
    return tuple(parts)


def run_code(code, answers):
    """The numbers that the code tells by these answers, and what is left in hands and slots; or NoAnswer."""
    now = Run(NO_PROGRAM, answers)
    frame = now.frames[0]
    for order in code:
        word = as_word(order)
        choices = choices_of(word)
        answer = now.next_answer(choices) if choices > 0 else 0
        do_boxes(now, frame, word, answer)
    left = [box + (worths,) for box, number, worths in frame.held() if len(worths) > 0]
    return (tuple(now.told), tuple(left))


def is_straight(row):
    """Whether the row has only words that a code can do."""
    return all(word[0] in STRAIGHT for word in row)


class Forms:
    """Forms by numbers: the same form has the same number, so that none is ever written out.

    makings tells of each form how it is made: ("number", n), ("take", n) and ("ask", n) by the answer n,
    ("mix", form, form), ("open", form).
    """

    def __init__(self):
        self.makings = []
        self.known = {}
        self.kept = []
        self.zero = self.made(("number", 0))

    def made(self, making):
        """The form that is made so."""
        if making not in self.known:
            self.known[making] = len(self.makings)
            self.makings.append(making)
            self.kept.append(self.keeps(making))
        return self.known[making]

    def keeps(self, making):
        """Whether what is made so has a worth."""
        if making[0] == "mix":
            return self.kept[making[1]] or self.kept[making[2]]
        return making[0] == "take"


class Trace:
    """What a straight row does, by form: of each of its words the forms that it asks and the form that it puts in
    (None of a tell), and at its end what the boxes hold."""

    def __init__(self, row, forms):
        self.forms = forms
        self.boxes = {}
        self.wanted = 0
        self.parts = []
        for word in row:
            asked = tuple([self.boxes.get(box, forms.zero) for box in asked_by(word)])
            put = self.put(word, asked)
            self.parts.append((word, asked, put))

    def put(self, word, asked):
        """Puts in what the word puts in, a wipe too; tells its form."""
        form = self.form_by(word, asked)
        if form is not None:
            self.boxes[word[1]] = form
        return form

    def form_by(self, word, asked):
        """The form that the word puts in, where it asks these."""
        if word[0] == "wipe":
            return self.forms.zero
        if word[0] == "copy":
            return asked[0]
        if word[0] == "number":
            return self.forms.made(("number", word[2]))
        if choices_of(word) > 0:
            self.wanted += 1
            return self.forms.made((word[0], self.wanted))
        return self.forms.made((word[0], *asked)) if word[0] in PUTTING else None

    def outer(self):
        """What the outer world sees: takes with their worths, asks, and tells with their forms."""
        takes_and_tells = [one for one in self.parts if one[0][0] in ("take", "ask", "tell")]
        return [(word[0], word[2:], asked) for word, asked, put in takes_and_tells]

    def keeps_nothing(self):
        """Whether no box has a worth at the end."""
        return not any(self.forms.kept[form] for form in self.boxes.values())


def code_holds(row, hands, code):
    """Whether anything is a code for so many hands that holds for the straight row."""
    if not is_code(hands, code):
        return False
    forms = Forms()
    machine = Trace([as_word(order) for order in code], forms)
    return machine.keeps_nothing() and machine.outer() == Trace(row, forms).outer()
