"""Runs of a program, by the answers of the outer world."""

from wipeways.errors import NoAnswer
from wipeways.places import behind, first_place, word_at
from wipeways.steps import PUTTING, choices_of, empties, head_of, leads_of
from wipeways.words import is_whole

# What a box holds at first: a number and worths.
NOTHING = (0, ())
MIXED_BY = 10007


class Frame:
    """The boxes of the main row, or of a def that is called, and the place where it is, or at which it waits."""

    def __init__(self, place):
        self.place = place
        self.boxes = {}

    def holds(self, box):
        """The number and the worths that the box holds."""
        return self.boxes.get(box, NOTHING)

    def held(self):
        """All that is held: tuples of box, number and worths."""
        found = [(box,) + self.boxes[box] for box in sorted(list(self.boxes))]
        return tuple([one for one in found if one[1:] != NOTHING])


class Run:
    """A run as far as it has come; ending is None till it ends."""

    def __init__(self, program, answers):
        self.program = program
        self.answers = answers
        self.wanted = 0
        self.steps = 0
        self.told = []
        self.left = []
        self.ending = None
        # The main row first; each one waits for the next.
        self.frames = [Frame(first_place(program, ""))]

    def word(self):
        """The word that is due, None at an end."""
        return word_at(self.program, self.frames[-1].place)

    def lacks_answer(self):
        """Whether the word that is due wants an answer where none is left."""
        return choices_of(self.word()) > 0 and self.wanted == len(self.answers)

    def next_answer(self, choices):
        """The next answer, which must be there, and be a number below choices."""
        if self.wanted == len(self.answers):
            raise NoAnswer(self.wanted)
        answer = self.answers[self.wanted]
        if not is_whole(answer) or not 0 <= answer < choices:
            raise NoAnswer(self.wanted)
        self.wanted += 1
        return answer

    def leave(self, frame, boxes):
        """Leaves what has a worth in these boxes, by the word at the place of the frame."""
        for box in sorted(boxes):
            worths = frame.holds(box)[1]
            if len(worths) > 0:
                self.left.append((frame.place, box, worths))


def put_by(word, frame, answer):
    """What the word puts into its box."""
    if word[0] == "take":
        return (answer, (word[2],))
    if word[0] == "ask":
        return (answer, ())
    if word[0] == "number":
        return (word[2], ())
    number, worths = frame.holds(word[2])
    if word[0] == "copy":
        return (number, worths)
    if word[0] == "open":
        return (number % 2, ())
    other, more = frame.holds(word[3])
    return ((number + 2 * other) % MIXED_BY, tuple(sorted(set(worths + more))))


def do_boxes(now, frame, word, answer):
    """Does with the boxes of the frame what the word does, and tells and leaves what it does."""
    if word[0] in PUTTING:
        frame.boxes[word[1]] = put_by(word, frame, answer)
    if word[0] == "tell":
        now.told.append(frame.holds(word[1])[0])
    if word[0] == "drop":
        now.leave(frame, word[1])
    for box in list(frame.boxes):
        if empties(word, box):
            frame.boxes[box] = NOTHING


def do_plain(now, word, answer):
    """Does a word that goes on in its own row."""
    frame = now.frames[-1]
    do_boxes(now, frame, word, answer)
    leads = leads_of(now.program, frame.place)
    frame.place = leads[answer][1] if word[0] == "choose" else leads[0][1]


def do_call(now, word):
    """Hands the args to the def; it goes on there."""
    frame = now.frames[-1]
    inner = Frame(first_place(now.program, word[1]))
    params = head_of(now.program, word[1])[0]
    for arg, param in zip(word[2], params):
        inner.boxes[param] = frame.holds(arg)
        frame.boxes[arg] = NOTHING
    now.frames.append(inner)


def do_back(now):
    """Goes back from a def behind its call, or ends in the main row."""
    inner = now.frames.pop()
    results = head_of(now.program, inner.place[0])[1]
    now.leave(inner, [box for box in list(inner.boxes) if box not in results])
    if len(now.frames) == 0:
        now.ending = ("ended",)
        return
    frame = now.frames[-1]
    gets = now.word()[3]
    for get, result in zip(gets, results):
        frame.boxes[get] = inner.holds(result)
    frame.place = behind(now.program, frame.place)


def do_fault(now, fault):
    """Ends by the fault: all that is held is left, the innermost first."""
    while len(now.frames) > 0:
        frame = now.frames.pop()
        now.leave(frame, list(frame.boxes))
    now.ending = ("fault", fault)


def do_ends(now):
    """Does what is due at ends: a def that goes back may lead to the end of the one that called it."""
    while now.ending is None and now.word() is None:
        do_back(now)


def do_step(now):
    """Does the word that is due, and what is due at the ends to which it leads."""
    word = now.word()
    choices = choices_of(word)
    answer = now.next_answer(choices) if choices > 0 else 0
    now.steps += 1
    if word[0] == "fault" or (word[0] == "risk" and answer == 1):
        do_fault(now, word[1])
    elif word[0] == "back":
        do_back(now)
    elif word[0] == "call":
        do_call(now, word)
    else:
        do_plain(now, word, answer)
    do_ends(now)


def run(program, answers, most):
    """What the run by these answers tells and leaves, in at most so many steps, or NoAnswer."""
    now = Run(program, answers)
    do_ends(now)
    while now.ending is None and now.steps < most and not now.lacks_answer():
        do_step(now)
    done = (now.steps, tuple(now.told), tuple(now.left))
    if now.ending is not None:
        return now.ending + done
    frame = now.frames[-1]
    return ("on", frame.place, *done, frame.held())
