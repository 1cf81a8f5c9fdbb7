"""Programs, their rows, and the words of these."""

from wipeways.names import is_box, is_name

MOST_DEFS = 6
# Of params, and of results.
MOST_HEAD = 4
MOST_ROWS = 4
MOST_NUMBER = 9999

# What stands behind the first part of each word.
FORMS = {
    "take": ("box", "name"),
    "ask": ("box",),
    "number": ("box", "whole"),
    "copy": ("box", "box"),
    "mix": ("box", "box", "box"),
    "open": ("box", "box"),
    "tell": ("box",),
    "wipe": ("box",),
    "clear": ("name",),
    "drop": ("boxes",),
    "choose": ("rows",),
    "loop": ("row",),
    "out": ("whole",),
    "risk": ("name",),
    "fault": ("name",),
    "call": ("name", "boxes", "boxes"),
    "back": (),
}


def is_whole(thing):
    """Whether anything is a whole number: True and False are ints to Python, but not here."""
    return isinstance(thing, int) and not isinstance(thing, bool)


def is_tuple_of(thing, many):
    """Whether anything is a tuple of so many parts."""
    return isinstance(thing, tuple) and len(thing) == many


def is_rising(things):
    """Whether things that can be compared rise, each once."""
    return all(low < high for low, high in zip(things, things[1:]))


def are_boxes(thing):
    """Whether anything is a tuple of unlike boxes."""
    if not isinstance(thing, tuple) or not all(is_box(box) for box in thing):
        return False
    return len(set(thing)) == len(thing)


def part_is_right(kind, part):
    """Whether anything is a part of that kind; what stands in a row, or in rows, is not looked at here."""
    if kind == "box":
        return is_box(part)
    if kind == "name":
        return is_name(part)
    if kind == "whole":
        return is_whole(part)
    if kind == "boxes":
        return are_boxes(part)
    return isinstance(part, tuple)


def has_form(thing):
    """Whether anything is made like a word: as many parts, each of its kind."""
    if not isinstance(thing, tuple) or len(thing) == 0:
        return False
    # Anything may stand first, also what can be no key of a dict.
    if not isinstance(thing[0], str) or thing[0] not in FORMS:
        return False
    form = FORMS[thing[0]]
    if len(thing) != len(form) + 1:
        return False
    return all(part_is_right(kind, part) for kind, part in zip(form, thing[1:]))


def word_is_right(thing, loops, heads):
    """Whether anything is a word with so many loops around it, where the defs of these heads stand ahead."""
    if not has_form(thing):
        return False
    kind = thing[0]
    if kind == "number":
        return 0 <= thing[2] <= MOST_NUMBER
    if kind == "out":
        return 1 <= thing[1] <= loops
    if kind == "drop":
        return len(thing[1]) > 0
    if kind == "choose":
        return 1 <= len(thing[1]) <= MOST_ROWS
    if kind == "call":
        return heads.get(thing[1]) == (len(thing[2]), len(thing[3]))
    return True


def rows_of(word):
    """The rows that stand in a word, in order."""
    if word[0] == "choose":
        return word[1]
    if word[0] == "loop":
        return (word[1],)
    return ()


def made_word(kind, rows):
    """A choose or loop of these rows."""
    if kind == "choose":
        return (kind, tuple(rows))
    return (kind, rows[0])


def row_is_right(thing, heads):
    """Whether anything is the row of a def, or a main row, where the defs of these heads stand ahead."""
    due = [(thing, 0)]
    while due:
        row, loops = due.pop()
        if not isinstance(row, tuple):
            return False
        for word in row:
            if not word_is_right(word, loops, heads):
                return False
            around = loops + 1 if word[0] == "loop" else loops
            due.extend([(inner, around) for inner in rows_of(word)])
    return True


def head_is_right(thing):
    """Whether anything can be the params, or the results, of a def."""
    return are_boxes(thing) and len(thing) <= MOST_HEAD


def def_is_right(thing, heads):
    """Whether anything is a def that may stand behind those of these heads."""
    if not is_tuple_of(thing, 4):
        return False
    name, params, results, row = thing
    if not is_name(name) or name in heads:
        return False
    return head_is_right(params) and head_is_right(results) and row_is_right(row, heads)


def is_program(thing):
    """Whether anything is a program."""
    if not is_tuple_of(thing, 2):
        return False
    defs, row = thing
    if not isinstance(defs, tuple) or len(defs) > MOST_DEFS:
        return False
    # How many params and results each def has, of those that stand ahead.
    heads = {}
    for one in defs:
        if not def_is_right(one, heads):
            return False
        heads[one[0]] = (len(one[1]), len(one[2]))
    return row_is_right(row, heads)


def all_rows(row):
    """The row itself and all rows in its words, however deep."""
    found = []
    due = [row]
    while due:
        inner = due.pop()
        found.append(inner)
        for word in inner:
            due.extend(rows_of(word))
    return found


def words_in(row):
    """How many words the row has in all."""
    return sum(len(inner) for inner in all_rows(row))


def boxes_of(word):
    """The boxes that the word itself names, as they stand in it."""
    found = []
    for kind, part in zip(FORMS[word[0]], word[1:]):
        if kind == "box":
            found.append(part)
        elif kind == "boxes":
            found.extend(part)
    return found


def boxes_in(row):
    """All boxes that the words of the row name, also in rows in them, rising, each once."""
    return tuple(sorted(set([box for inner in all_rows(row) for word in inner for box in boxes_of(word)])))


def names_of(program):
    """The names of the defs, in their order, and that of the main row, last."""
    return [one[0] for one in program[0]] + [""]


def def_of(program, name):
    """The def of that name, or None."""
    for one in program[0]:
        if one[0] == name:
            return one
    return None


def row_of(program, name):
    """The main row of "", else the row of the def of that name."""
    if name == "":
        return program[1]
    return def_of(program, name)[3]
