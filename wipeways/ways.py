"""Ways that leave something: a shortest run of a program that is not let by."""

from wipeways.places import first_place
from wipeways.steps import Look, leaves, moved

MOST_STEPS = 300


class Trail:
    """A way within a row: the way ahead of its last word, the answers that this wants, and the way through the
    def that it calls, if it does; steps are all of these together."""

    def __init__(self, ahead, steps, answers, through):
        self.ahead = ahead
        self.steps = steps
        self.answers = answers
        self.through = through


class Shortest:
    """Of a def, or of the main row, the shortest ways from its beginning.

    What is followed is one thing that is held, from a param (its number) or from a take (None) on. exits:
    by what is followed and the number of the result in which it comes back (None: just coming back); left: by
    what is followed, the trail that leaves it, the place and the box; fault: the trail that ends by a fault.
    """

    def __init__(self):
        self.exits = {}
        self.left = {}
        self.fault = None


def longer(trail, answers, through):
    """The trail with one word more, by these answers, and what goes on in the def that it calls."""
    more = 1 if through is None else 1 + through.steps
    return Trail(trail, trail.steps + more, answers, through)


def shorter_of(one, other):
    """The shorter one of two trails, each of which may lack."""
    if one is None or (other is not None and other.steps < one.steps):
        return other
    return one


def plain_hops(word, leads, box, trail):
    """Where the word leads: tuples of place, box that is followed there (None: none yet), and trail."""
    if box is not None:
        boxes = moved(word, box)
    else:
        boxes = (None, word[1]) if word[0] == "take" else (None,)
    return [(place, one, longer(trail, answers, None)) for answers, place in leads for one in boxes]


def call_hops(look, word, place, box, trail):
    """Where the call leads, behind which stands the place."""
    exits = look.known[word[1]].exits
    args, gets = word[2], word[3]
    if box is not None and box not in args:
        if box in gets or (None, None) not in exits:
            return []
        return [(place, box, longer(trail, (), exits[(None, None)]))]
    followed = None if box is None else args.index(box)
    found = []
    for (entry, number), through in exits.items():
        if entry == followed:
            get = None if number is None else gets[number]
            found.append((place, get, longer(trail, (), through)))
    return found


def hops(look, place, box, trail):
    """Where a way at the place leads next."""
    word, leads = look.links[place]
    if word is None:
        return []
    if word[0] == "call":
        return call_hops(look, word, leads[0][1], box, trail)
    return plain_hops(word, leads, box, trail)


def reached_from(look, box):
    """By place and box (None: nothing is followed yet) the shortest trail there, from the box at first."""
    reached = {}
    # What is still to be looked at, by steps: each word makes a way longer, so the shortest goes first.
    due = {0: [(first_place(look.program, look.name), box, Trail(None, 0, (), None))]}
    while due:
        row = due.pop(min(list(due)))
        for place, one, trail in row:
            if (place, one) not in reached:
                reached[(place, one)] = trail
                for hop in hops(look, place, one, trail):
                    due.setdefault(hop[2].steps, []).append(hop)
    return reached


def left_by_call(look, word, place, box, trail):
    """How a call may leave what is followed: the trail, the place and the box; or None."""
    called = look.known[word[1]]
    if box is not None and box not in word[2]:
        # It waits here, and is left where the def ends by a fault.
        return None if called.fault is None else (longer(trail, (), called.fault), place, box)
    followed = None if box is None else word[2].index(box)
    if followed not in called.left:
        return None
    through, inner_place, inner_box = called.left[followed]
    return (longer(trail, (), through), inner_place, inner_box)


def left_at(look, place, box, trail):
    """How the word at the place may leave what is followed: the trail, the place and the box; or None."""
    word = look.links[place][0]
    if word is not None and word[0] == "call":
        return left_by_call(look, word, place, box, trail)
    if box is None or not leaves(word, box, look.results):
        return None
    return (done_at(word, trail), place, box)


def done_at(word, trail):
    """The trail with what is done at the word, at which it ends; an end is no step of its own."""
    if word is None:
        return trail
    return longer(trail, (1,) if word[0] == "risk" else (), None)


def fault_at(look, place, trail):
    """The trail that ends by a fault at the word at the place, or in the def that it calls; or None."""
    word = look.links[place][0]
    if word is None:
        return None
    if word[0] == "call":
        fault = look.known[word[1]].fault
        return None if fault is None else longer(trail, (), fault)
    return done_at(word, trail) if word[0] in ("risk", "fault") else None


def note_exit(look, found, entry, place, box, trail):
    """Notes the way back that there is at the place, if it is the shortest one by now."""
    word = look.links[place][0]
    if word is not None and word[0] != "back":
        return
    if box is None or box in look.results:
        key = (entry, None if box is None else look.results.index(box))
        found.exits[key] = shorter_of(found.exits.get(key), done_at(word, trail))


def note_ways(look, found, entry, box):
    """Notes the shortest ways of what is followed, from the box at first."""
    reached = reached_from(look, box)
    for (place, one), trail in reached.items():
        note_exit(look, found, entry, place, one, trail)
        left = left_at(look, place, one, trail)
        if left is not None and (entry not in found.left or left[0].steps < found.left[entry][0].steps):
            found.left[entry] = left
        if one is None:
            found.fault = shorter_of(found.fault, fault_at(look, place, trail))


def shortest_of(program, name, known):
    """The shortest ways of a def, or of the main row, by those of the defs that it calls."""
    look = Look(program, name, known)
    found = Shortest()
    note_ways(look, found, None, None)
    for number, param in enumerate(look.params):
        note_ways(look, found, number, param)
    return found


def answers_of(trail):
    """All answers that the way wants, in order; where there is none, none."""
    backward = []
    while trail is not None:
        backward.append(list(trail.answers) + answers_of(trail.through))
        trail = trail.ahead
    return [answer for answers in backward[::-1] for answer in answers]


def way_left(program):
    """None where the program is let by; else a shortest run that leaves something: its answers, place and box,
    or, where it has too many steps, the place and the box alone."""
    known = {}
    for one in program[0]:
        known[one[0]] = shortest_of(program, one[0], known)
    left = shortest_of(program, "", known).left
    if None not in left:
        return None
    trail, place, box = left[None]
    if trail.steps > MOST_STEPS:
        return ("far", place, box)
    return ("way", tuple(answers_of(trail)), place, box)
