"""Defs put in place: of each program one without defs that tells and leaves what the program does."""

from wipeways.errors import TooLong
from wipeways.names import LETTERS, is_name
from wipeways.words import FORMS, all_rows, boxes_in, boxes_of, def_of, made_word, rows_of

MOST_WORDS = 300
# All fresh names are as long as one another, so those that are given later rise.
FRESH_LETTERS = 4


def name_by(number):
    """The text of small letters that stands at this number among those of its length."""
    letters = []
    for step in range(FRESH_LETTERS):
        letters.append(LETTERS[number % len(LETTERS)])
        number //= len(LETTERS)
    return "".join(letters[::-1])


class Fresh:
    """Gives names that aren't taken, each once."""

    def __init__(self, taken):
        self.taken = taken
        self.given = 0

    def next_name(self):
        """A name that stands nowhere by now."""
        while True:
            name = name_by(self.given)
            self.given += 1
            if is_name(name) and name not in self.taken:
                return name


def texts_of(word):
    """The names and boxes that stand in a word itself."""
    names = [part for kind, part in zip(FORMS[word[0]], word[1:]) if kind == "name"]
    return names + boxes_of(word)


def names_in(program):
    """All names that stand anywhere in the program, each one True."""
    texts = []
    rows = [program[1]]
    for name, params, results, row in program[0]:
        texts.extend([name, *params, *results])
        rows.append(row)
    for row in rows:
        texts.extend([text for inner in all_rows(row) for word in inner for text in texts_of(word)])
    return {name: True for text in texts for name in text.split(".")}


def boxes_of_def(one):
    """All boxes that the row, the params or the results of the def name, rising."""
    name, params, results, row = one
    return sorted(set(boxes_in(row) + params + results))


def others_of(one):
    """The boxes of the def that are none of its results, rising."""
    return [box for box in boxes_of_def(one) if box not in one[2]]


def fresh_names(one, fresh):
    """A fresh name for each name with which a box of the def begins, or which it clears."""
    cleared = [word[1] for inner in all_rows(one[3]) for word in inner if word[0] == "clear"]
    begun = [box.split(".")[0] for box in boxes_of_def(one)]
    return {name: fresh.next_name() for name in sorted(set(cleared + begun))}


def fresh_box(box, names):
    """The box by the fresh name with which it begins now."""
    name, dot, rest = box.partition(".")
    return names[name] + dot + rest


def fresh_part(kind, part, names):
    """A part of a word that has no rows, by fresh names."""
    if kind == "box":
        return fresh_box(part, names)
    if kind == "boxes":
        return tuple([fresh_box(box, names) for box in part])
    return part


def fresh_word(word, names):
    """A word that has no rows, by fresh names; worths, faults and defs keep theirs."""
    if word[0] == "clear":
        return ("clear", names[word[1]])
    parts = [fresh_part(kind, part, names) for kind, part in zip(FORMS[word[0]], word[1:])]
    return (word[0], *parts)


def going_back(one, names, gets):
    """What stands ahead of the out in the stead of a back of the def, or of its end."""
    results = [fresh_box(box, names) for box in one[2]]
    others = [fresh_box(box, names) for box in others_of(one)]
    words = [("copy", get, box) for get, box in zip(gets, results)]
    words.extend([("wipe", box) for box in results])
    if len(others) > 0:
        words.append(("drop", tuple(others)))
    return words


def fresh_row(row, names, ending, loops):
    """The row of a def by fresh names; in the stead of each back the ending and an out of so many loops."""
    words = []
    for word in row:
        inner = rows_of(word)
        if word[0] == "back":
            words.extend([*ending, ("out", loops)])
        elif len(inner) > 0:
            around = loops + 1 if word[0] == "loop" else loops
            words.append(made_word(word[0], [fresh_row(one, names, ending, around) for one in inner]))
        else:
            words.append(fresh_word(word, names))
    return tuple(words)


def call_in_place(program, word, fresh):
    """The loop in the stead of a call."""
    one = def_of(program, word[1])
    names = fresh_names(one, fresh)
    words = [("copy", fresh_box(param, names), arg) for param, arg in zip(one[1], word[2])]
    words.extend([("wipe", arg) for arg in word[2]])
    # The end of a def does what a back does.
    words.extend(fresh_row(one[3] + (("back",),), names, going_back(one, names, word[3]), 1))
    return ("loop", calls_in_place(program, words, fresh))


def calls_in_place(program, row, fresh):
    """The row with a loop in the stead of each call."""
    words = []
    for word in row:
        inner = rows_of(word)
        if word[0] == "call":
            words.append(call_in_place(program, word, fresh))
        elif len(inner) > 0:
            words.append(made_word(word[0], [calls_in_place(program, one, fresh) for one in inner]))
        else:
            words.append(word)
    return tuple(words)


def size_of(row, sizes, back):
    """How many words the row becomes in all: a call so many as sizes tells of its def, a back so many as told."""
    size = 0
    for inner in all_rows(row):
        for word in inner:
            if word[0] == "call":
                size += sizes[word[1]]
            else:
                size += back if word[0] == "back" else 1
    return size


def sizes_of(program):
    """How many words a call of each def becomes: told ahead, since they may be far too many to be made."""
    sizes = {}
    for one in program[0]:
        name, params, results, row = one
        back = 2 * len(results) + min(1, len(others_of(one))) + 1
        sizes[name] = 1 + 2 * len(params) + size_of(row, sizes, back) + back
    return sizes


def in_place(program):
    """The program without defs, each call a loop of what its def does, or TooLong."""
    if size_of(program[1], sizes_of(program), 1) > MOST_WORDS:
        raise TooLong("it would have more than three hundred words")
    return ((), calls_in_place(program, program[1], Fresh(names_in(program))))
