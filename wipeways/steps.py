"""What each word does by itself: where it leads, which answers it takes, what it moves and leaves."""

from wipeways.names import in_record
from wipeways.places import behind, inside, out_of, places_of, word_at
from wipeways.words import MOST_NUMBER, def_of

# The words that put something into their first box.
PUTTING = ("take", "ask", "number", "copy", "mix", "open")


def head_of(program, name):
    """The params and results of the def of that name; the main row has neither."""
    if name == "":
        return ((), ())
    one = def_of(program, name)
    return (one[1], one[2])


def choices_of(word):
    """How many answers can be given to the word, from 0 on: none where it wants no answer."""
    if word[0] == "take" or word[0] == "ask":
        return MOST_NUMBER + 1
    if word[0] == "choose":
        return len(word[1])
    if word[0] == "risk":
        return 2
    return 0


def leads_of(program, place):
    """Where the word at the place may lead: tuples of the answers by which, and the place.

    Of many answers that lead to one place the first one is told. A call leads on where its def comes back.
    """
    word = word_at(program, place)
    if word is None or word[0] in ("fault", "back"):
        return ()
    if word[0] == "choose":
        return tuple(((number,), inside(program, place, number)) for number in range(len(word[1])))
    if word[0] == "loop":
        return (((), inside(program, place, 0)),)
    if word[0] == "out":
        return (((), out_of(program, place, word[1])),)
    answers = () if choices_of(word) == 0 else (0,)
    return ((answers, behind(program, place)),)


def links_of(program, name):
    """Of each place of that row: its word, and where this may lead."""
    return {place: (word_at(program, place), leads_of(program, place)) for place in places_of(program, name)}


class Look:
    """A def, or the main row, as it is looked at: by what is known of the defs that it calls, by their names."""

    def __init__(self, program, name, known):
        self.program = program
        self.name = name
        self.known = known
        self.params, self.results = head_of(program, name)
        self.links = links_of(program, name)


def empties(word, box):
    """Whether the word wipes, clears or drops the box."""
    if word[0] == "wipe":
        return box == word[1]
    if word[0] == "clear":
        return in_record(box, word[1])
    return word[0] == "drop" and box in word[1]


def asked_by(word):
    """The boxes that the word asks; what back and the end of a def ask is not told here."""
    if word[0] in ("copy", "mix", "open"):
        return word[2:]
    if word[0] == "tell":
        return word[1:]
    return word[2] if word[0] == "call" else ()


def moved(word, box):
    """The boxes that hold, behind the word, what came from what the box held ahead of it; not asked of calls."""
    if word[0] not in PUTTING:
        return () if empties(word, box) else (box,)
    # What stands behind the first box of the others is no box, or is opened.
    from_boxes = word[2:] if word[0] in ("copy", "mix") else ()
    kept = () if box == word[1] else (box,)
    return (kept + (word[1],)) if box in from_boxes else kept


def leaves(word, box, results):
    """Whether what the box holds may be left by the word, or by an end, None; not asked of calls."""
    if word is None or word[0] == "back":
        return box not in results
    if word[0] == "drop":
        return box in word[1]
    return word[0] in ("risk", "fault")
