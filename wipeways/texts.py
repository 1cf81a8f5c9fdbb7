"""Programs written as texts, and read again."""

from wipeways.errors import NoText
from wipeways.words import FORMS, is_program, made_word

FIGURES = "0123456789"
MOST_FIGURES = 4


def marks_of_rows(rows):
    """The marks of rows in a word: braces around them, a stroke between any two."""
    marks = ["{"]
    for number, row in enumerate(rows):
        if number > 0:
            marks.append("|")
        marks.extend(marks_of_row(row))
    marks.append("}")
    return marks


def marks_of_part(kind, part):
    """The marks of a part of a word, by the kind of the part."""
    if kind == "whole":
        return [str(part)]
    if kind == "boxes":
        return ["(", *part, ")"]
    if kind == "row":
        return marks_of_rows((part,))
    if kind == "rows":
        return marks_of_rows(part)
    return [part]


def marks_of_row(row):
    """What the row is written by: texts that one blank parts."""
    marks = []
    for word in row:
        marks.append(word[0])
        for kind, part in zip(FORMS[word[0]], word[1:]):
            marks.extend(marks_of_part(kind, part))
    return marks


def show_row(row):
    """The row as written."""
    return " ".join(marks_of_row(row))


def show_def(one):
    """The def as written."""
    name, params, results, row = one
    marks = ["def", name, "(", *params, ")", "(", *results, ")"]
    marks.extend(marks_of_rows((row,)))
    return " ".join(marks)


def show_program(program):
    """The program as written; whether its calls find a def is not asked."""
    defs, row = program
    lines = [show_def(one) for one in defs]
    lines.append(" ".join(["main"] + marks_of_rows((row,))))
    return "\n".join(lines)


class Marks:
    """The marks of a line, read from the first one on."""

    def __init__(self, line):
        self.marks = line.split(" ")
        self.at = 0

    def one(self):
        """The next mark."""
        if self.at == len(self.marks):
            raise NoText("the line ends too early")
        self.at += 1
        return self.marks[self.at - 1]

    def skip(self, mark):
        """Goes past this mark, which must be the next one."""
        if self.one() != mark:
            raise NoText(f"a mark is not where it is due: {mark}")

    def finish(self):
        """Sees to it that no mark is left."""
        if self.at < len(self.marks):
            raise NoText("the line goes on too long")


def read_whole(mark):
    """The number that the mark writes, just as numbers are written."""
    # Ahead of int, which fails in its own way at thousands of figures and takes figures of other scripts.
    if not 1 <= len(mark) <= MOST_FIGURES or not all(sign in FIGURES for sign in mark):
        raise NoText("no number of one to four figures")
    if mark[0] == "0" and mark != "0":
        raise NoText("a number with a 0 ahead")
    return int(mark)


def read_boxes(marks):
    """What stands between brackets; whether these are boxes is asked of the whole program."""
    marks.skip("(")
    boxes = []
    mark = marks.one()
    while mark != ")":
        boxes.append(mark)
        mark = marks.one()
    return tuple(boxes)


def read_part(marks, kind):
    """A part of a word, by its kind; names and boxes are asked of the whole program."""
    if kind == "whole":
        return read_whole(marks.one())
    if kind == "boxes":
        return read_boxes(marks)
    return marks.one()


def read_word(marks, mark):
    """The word that begins with this mark, and has no rows in it."""
    if mark not in FORMS:
        raise NoText("no word of a row")
    parts = [mark]
    for kind in FORMS[mark]:
        parts.append(read_part(marks, kind))
    return tuple(parts)


def read_row(marks):
    """A row between braces."""
    marks.skip("{")
    # What waits for an inner word: by a list, since texts may go deeper than Python's calls can.
    around = []
    kind, rows, words = "", [], []
    while True:
        mark = marks.one()
        if mark == "}":
            rows.append(tuple(words))
            if len(around) == 0:
                return rows[0]
            word = made_word(kind, rows)
            kind, rows, words = around.pop()
            words.append(word)
        elif mark == "|" and kind == "choose":
            rows.append(tuple(words))
            words = []
        elif mark == "choose" or mark == "loop":
            marks.skip("{")
            around.append((kind, rows, words))
            kind, rows, words = mark, [], []
        else:
            words.append(read_word(marks, mark))


def read_def(line):
    """The def that the line writes, if it is right in the program."""
    marks = Marks(line)
    marks.skip("def")
    name = marks.one()
    params = read_boxes(marks)
    results = read_boxes(marks)
    row = read_row(marks)
    marks.finish()
    return (name, params, results, row)


def read_main(line):
    """The main row that the line writes, if it is right in the program."""
    marks = Marks(line)
    marks.skip("main")
    row = read_row(marks)
    marks.finish()
    return row


def read_program(text):
    """The program that is written by just this text, or NoText, of anything."""
    if not isinstance(text, str):
        raise NoText("no text")
    lines = text.split("\n")
    program = (tuple([read_def(line) for line in lines[:-1]]), read_main(lines[-1]))
    if not is_program(program):
        raise NoText("no program")
    return program
