"""A desk that keeps defs, and is told rows."""

from wipeways.errors import NoRow, NoText
from wipeways.laying import coded
from wipeways.texts import Marks, read_def, read_row, read_whole, show_def, show_program
from wipeways.ways import way_left
from wipeways.windows import shorter
from wipeways.wiping import put_in, wiped
from wipeways.words import is_program

FEWEST_HANDS = 3
MOST_HANDS = 8


def show_place(place):
    """The place as written."""
    parts = ["main" if place[0] == "" else place[0]]
    parts.extend([str(number) for number in place[1:]])
    return ".".join(parts)


def show_left(left):
    """What way_left tells, as written."""
    if left is None:
        return "let by"
    place, box = left[-2:]
    if left[0] == "far":
        return f"left {box} at {show_place(place)} far"
    answers = " ".join([str(answer) for answer in left[1]])
    return f"left {box} at {show_place(place)} by {answers}"


def show_wiped(program):
    """The program with the wipes put in, as written, or what stays."""
    told = wiped(program)
    if told[0] == "stays":
        return f"stays {told[2]} at {show_place(told[1])}"
    return show_program(put_in(program, told[1]))


def read_hands(mark):
    """The number of hands that the mark writes, or NoText."""
    hands = read_whole(mark)
    if not FEWEST_HANDS <= hands <= MOST_HANDS:
        raise NoText("no number of hands")
    return hands


def read_wish(text):
    """The kind of a row that a desk is told, and its parts, or NoText."""
    marks = Marks(text)
    kind = marks.one()
    if kind == "def":
        return (kind, read_def(text))
    if kind == "drop":
        wish = (kind, marks.one())
    elif kind == "show":
        wish = (kind,)
    elif kind == "code":
        wish = (kind, read_hands(marks.one()), read_row(marks))
    elif kind in ("look", "wipe", "short"):
        wish = (kind, read_row(marks))
    else:
        raise NoText("no row that a desk is told")
    marks.finish()
    return wish


class Desk:
    """Keeps defs, and tells of rows what is asked of them."""

    def __init__(self):
        self.defs = ()

    def say(self, row):
        """What the desk answers to a row, of anything; or NoRow, or of code NoCode."""
        if not isinstance(row, str):
            raise NoRow("no text")
        try:
            wish = read_wish(row)
        except NoText:
            raise NoRow("no row that a desk is told") from None
        if wish[0] == "show":
            return "\n".join([show_def(one) for one in self.defs])
        if wish[0] == "def":
            return self.keep(self.defs + (wish[1],))
        if wish[0] == "drop":
            return self.drop(wish[1])
        return self.tell(wish)

    def keep(self, defs):
        """Keeps these defs from now on."""
        if not is_program((defs, ())):
            raise NoRow("these defs make no program")
        self.defs = defs
        return "ok"

    def drop(self, name):
        """Keeps the def of that name no more."""
        rest = tuple([one for one in self.defs if one[0] != name])
        if len(rest) == len(self.defs):
            raise NoRow("no def of that name is kept")
        return self.keep(rest)

    def tell(self, wish):
        """What is asked of a main row: of the whole program, or of the row without the defs."""
        kind = wish[0]
        program = (self.defs if kind in ("look", "short") else (), wish[-1])
        if not is_program(program):
            raise NoRow("the row makes no program")
        if kind == "look":
            return show_left(way_left(program))
        if kind == "short":
            return show_program(shorter(program)[0])
        if kind == "wipe":
            return show_wiped(program)
        return str(len(coded(program[1], wish[1])))
