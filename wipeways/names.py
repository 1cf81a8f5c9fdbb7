"""Names and boxes."""

LETTERS = "abcdefghijklmnopqrstuvwxyz"
MOST_LETTERS = 8

# The words of the tongue; none of them is a name.
TONGUE = (
    "take", "ask", "number", "copy", "mix", "open", "tell", "wipe", "clear", "drop",
    "choose", "loop", "out", "risk", "fault", "call", "back", "def", "main",
)


def is_name(thing):
    """Whether anything is a name."""
    if not isinstance(thing, str) or thing in TONGUE:
        return False
    return 1 <= len(thing) <= MOST_LETTERS and all(sign in LETTERS for sign in thing)


def is_box(thing):
    """Whether anything is a box: a name, or two names with a dot between."""
    if not isinstance(thing, str):
        return False
    record, dot, rest = thing.partition(".")
    return is_name(record) and (dot == "" or is_name(rest))


def in_record(box, name):
    """Whether the box is one of the record of that name (the box of that name is none)."""
    return box.startswith(name + ".")
