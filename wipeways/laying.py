"""Straight rows laid over hands and slots."""

from wipeways.codes import MOST_SLOTS, Forms, Trace, is_straight
from wipeways.errors import NoCode


def last_asked(parts):
    """Of each form that is asked for the sake of a tell, the number of the last part of a trace that asks it."""
    last = {}
    # From the end on: a word that makes what nothing asks behind it asks nothing itself.
    for at in reversed(range(len(parts))):
        word, asked, put = parts[at]
        if word[0] == "tell" or put in last:
            for form in asked:
                last.setdefault(form, at)
    return last


class Laying:
    """The orders that are made by now, and the forms that hands and slots hold behind them."""

    def __init__(self, forms, last, hands):
        self.forms = forms
        self.last = last
        self.hands = [forms.zero] * hands
        self.slots = [forms.zero] * MOST_SLOTS
        self.orders = []

    def is_number(self, form):
        """Whether the form is a plain number: it can be made anew at any time."""
        return self.forms.makings[form][0] == "number"

    def is_due(self, form, at):
        """Whether the form must be kept for the part of that number, or for one behind it."""
        return not self.is_number(form) and self.last.get(form, -1) >= at

    def lay(self, hand, at):
        """Lays what the hand holds in a slot that holds nothing that is due."""
        free = [slot for slot, form in enumerate(self.slots) if not self.is_due(form, at)]
        if len(free) == 0:
            raise NoCode("more is to be kept at once than hands and slots can")
        self.slots[free[0]] = self.hands[hand]
        self.orders.append(("lay", free[0], hand))

    def free_hand(self, at, spared):
        """A hand, none of the spared ones, with which nothing is lost that is due at the part of that number."""
        choices = [hand for hand in range(len(self.hands)) if hand not in spared]
        for hand in choices:
            form = self.hands[hand]
            if not self.is_due(form, at) or form in self.slots:
                return hand
        # What is done with last of all is the least in the way in a slot.
        hand = max([(self.last[self.hands[one]], one) for one in choices])[1]
        self.lay(hand, at)
        return hand

    def fetch(self, form, hand):
        """Brings the form into the hand."""
        if self.is_number(form):
            self.orders.append(("number", hand, self.forms.makings[form][1]))
        else:
            self.orders.append(("fetch", hand, self.slots.index(form)))
        self.hands[hand] = form

    def hands_with(self, asked, at):
        """Hands that hold the forms that the part of that number asks."""
        for form in asked:
            if form not in self.hands:
                spared = [self.hands.index(one) for one in asked if one in self.hands]
                self.fetch(form, self.free_hand(at, spared))
        return [self.hands.index(form) for form in asked]

    def do(self, at, part):
        """Makes the orders of a part of the trace, of that number; copies and wipes need none."""
        word, asked, put = part
        if word[0] == "tell":
            self.orders.append(("tell", self.hands_with(asked, at)[0]))
        elif word[0] in ("take", "ask"):
            self.put_in_hand(word[0], word[2:], put, at)
        elif word[0] in ("mix", "open") and self.is_due(put, at) and not self.has(put):
            self.put_in_hand(word[0], self.hands_with(asked, at), put, at)

    def has(self, form):
        """Whether the form is held already."""
        return form in self.hands or form in self.slots

    def put_in_hand(self, kind, rest, form, at):
        """Makes an order that puts the form into a hand."""
        hand = self.free_hand(at + 1, [])
        self.orders.append((kind, hand, *rest))
        self.hands[hand] = form

    def wipe_all(self):
        """Wipes the hands, and cleans the slots, that have a worth."""
        kept = self.forms.kept
        self.orders.extend([("wipe", hand) for hand, form in enumerate(self.hands) if kept[form]])
        self.orders.extend([("clean", slot) for slot, form in enumerate(self.slots) if kept[form]])


def coded(row, hands):
    """A code for so many hands that holds for the row; or NoCode where it isn't straight, or leaves something."""
    if not is_straight(row):
        raise NoCode("no straight row")
    trace = Trace(row, Forms())
    if not trace.keeps_nothing():
        raise NoCode("the row leaves something")
    laying = Laying(trace.forms, last_asked(trace.parts), hands)
    for at, part in enumerate(trace.parts):
        laying.do(at, part)
    laying.wipe_all()
    return tuple(laying.orders)
