"""What tests share: things that "of anything" means, programs made by chance, and runs and ways told anew."""

from wipeways.errors import NoAnswer
from wipeways.runs import run
from wipeways.texts import read_program


def no_texts():
    """Things that are no texts: no name and no box can be among them."""
    return [
        None, True, False, 0, 1, -1, 10 ** 5000, -10 ** 5000,
        (), ("a",), ("a", "b"), ("key.low",), [], ["a"], {}, {"a": "b"}, {"a": ["b"]},
        deep(20), [deep(20)], {"a": deep(20)}, ([],), ({},), (None, True, [("a",)]),
    ]


def deep(many):
    """Tuples within one another, so many deep."""
    thing = ()
    for _ in range(many - 1):
        thing = (thing,)
    return thing


def main_row(text):
    """The main row that is so written."""
    return read_program("main { " + text + " }" if text else "main { }")[1]


def made_row(chance, deep, loops, heads, boxes):
    """A row by chance: at most so deep, within so many loops, calling defs of these heads."""
    many = chance.randrange(1 + chance.choice((2, 4, 7)))
    return tuple(made_word(chance, deep, loops, heads, boxes) for _ in range(many))


def made_word(chance, deep, loops, heads, boxes):
    """A word by chance, as a made row has it."""
    kinds = ["take", "take", "ask", "number", "copy", "copy", "mix", "open", "tell", "wipe", "clear", "drop"]
    kinds += ["choose", "choose", "loop"] * (deep > 1) + ["out"] * 3 * (loops > 0)
    kinds += ["risk", chance.choice(("risk", "fault", "back"))] + ["call"] * 4 * (len(heads) > 0)
    kind = chance.choice(kinds)
    x, y, z = (chance.choice(boxes) for _ in range(3))
    if kind == "choose":
        rows = range(chance.randrange(1, 5))
        return (kind, tuple(made_row(chance, deep - 1, loops, heads, boxes) for _ in rows))
    if kind == "loop":
        return (kind, made_row(chance, deep - 1, loops + 1, heads, boxes))
    if kind == "call":
        name, params, results = chance.choice(heads)
        return (kind, name, unlike(chance, boxes, len(params)), unlike(chance, boxes, len(results)))
    return {
        "take": (kind, x, chance.choice(("u", "w"))), "ask": (kind, x), "number": (kind, x, chance.randrange(10000)),
        "copy": (kind, x, y), "mix": (kind, x, y, z), "open": (kind, x, y), "tell": (kind, x), "wipe": (kind, x),
        "clear": (kind, chance.choice(("k", "key"))), "drop": (kind, unlike(chance, boxes, chance.randrange(1, 3))),
        "out": (kind, chance.randrange(1, loops + 1) if loops else 0), "risk": (kind, chance.choice(("f", "g"))),
        "fault": (kind, "f"), "back": (kind,),
    }[kind]


def unlike(chance, boxes, many):
    return tuple(chance.sample(boxes, many))


def made_program(chance, most_defs=3, deep=3):
    """A program by chance."""
    boxes = chance.choice((("a", "b"), ("a", "k", "k.b"), ("key.a", "k.a", "b"), ("a", "b", "c", "k.d")))
    defs, heads = [], []
    for name in chance.sample(("d", "e", "h", "i", "j", "l"), chance.randrange(most_defs + 1)):
        most = min(4, len(boxes))
        params = unlike(chance, boxes, chance.randrange(most + 1))
        results = unlike(chance, boxes, chance.randrange(most + 1))
        defs.append((name, params, results, made_row(chance, deep, 0, heads, boxes)))
        heads.append((name, params, results))
    return (tuple(defs), made_row(chance, deep, 0, heads, boxes))


def made_straight(chance, many, boxes):
    """A straight row of so many words by chance, that leaves nothing: where it would, wipes stand at its end."""
    row, held = (), set()
    while len(row) + len(held) < many:
        kinds = ("take", "take", "ask", "number", "copy", "copy", "mix", "mix", "mix", "open", "tell", "tell", "wipe")
        kind = chance.choice(kinds)
        x, y, z = (chance.choice(boxes) for _ in range(3))
        word = {
            "take": (kind, x, chance.choice(("u", "w"))), "number": (kind, x, chance.choice((0, 1, 9999))),
            "copy": (kind, x, y), "mix": (kind, x, y, z), "open": (kind, x, y),
        }.get(kind, (kind, x))
        after = {box for box, source in Explored.held_after(word, frozenset((box, "w") for box in held))}
        if len(row) + 1 + len(after) <= many:
            row, held = row + (word,), after
    return row + tuple(("wipe", box) for box in chance.sample(sorted(held), len(held)))


class Went(Exception):
    """How the plain run below leaves a row early."""


class Back(Went):
    pass


class Out(Went):
    pass


class Fault(Went):
    pass


class PlainRun:
    """A run told anew in another way than the program's own: row within row, by Python's own calls."""

    def __init__(self, program):
        self.defs = {one[0]: one for one in program[0]}
        self.main = program[1]
        self.told, self.left, self.frames = [], [], []

    def leave(self, place, frame, boxes):
        self.left += [(place, box, frame[box][1]) for box in sorted(boxes) if box in frame and frame[box][1]]

    def play(self, name, row, frame, results):
        """Does the main row, or a def; yields each place and word ahead of doing it."""
        self.frames.append(frame)
        try:
            yield from self.row(row, (name,), frame)
            place = (name, len(row))
        except Back as went:
            place = went.args[0]
        self.frames.pop()
        self.leave(place, frame, [box for box in frame if box not in results])

    def row(self, row, ahead, frame):
        for at, word in enumerate(row):
            yield from self.word(word, ahead + (at,), frame)

    def word(self, word, place, frame):
        answer = yield (place, word)
        kind, parts = word[0], word[1:]
        if kind == "choose":
            yield from self.row(parts[0][answer], place + (answer,), frame)
        elif kind == "loop":
            yield from self.loop(word, place, frame)
        elif kind == "call":
            yield from self.call(parts, place, frame)
        elif kind == "out":
            raise Out(parts[0])
        elif kind == "back":
            raise Back(place)
        elif kind == "fault" or (kind == "risk" and answer == 1):
            self.leave(place, frame, list(frame))
            raise Fault(parts[0])
        else:
            self.plain(kind, parts, answer, place, frame)

    def loop(self, word, place, frame):
        while True:
            try:
                yield from self.row(word[1], place + (0,), frame)
            except Out as went:
                if went.args[0] > 1:
                    raise Out(went.args[0] - 1) from None
                return
            yield (place, word)

    def call(self, parts, place, frame):
        name, params, results, row = self.defs[parts[0]]
        inner = {param: frame.pop(arg, (0, ())) for param, arg in zip(params, parts[1])}
        try:
            yield from self.play(name, row, inner, results)
        except Fault:
            self.leave(place, frame, list(frame))
            raise
        frame.update({get: inner.get(result, (0, ())) for get, result in zip(parts[2], results)})

    def plain(self, kind, parts, answer, place, frame):
        held = [frame.get(part, (0, ())) if isinstance(part, str) else None for part in parts]
        if kind == "tell":
            self.told.append(held[0][0])
        elif kind == "take":
            frame[parts[0]] = (answer, (parts[1],))
        elif kind == "ask":
            frame[parts[0]] = (answer, ())
        elif kind == "number":
            frame[parts[0]] = (parts[1], ())
        elif kind == "copy":
            frame[parts[0]] = held[1]
        elif kind == "mix":
            worths = {worth for one in held[1:] for worth in one[1]}
            frame[parts[0]] = ((held[1][0] + 2 * held[2][0]) % 10007, tuple(sorted(worths)))
        elif kind == "open":
            frame[parts[0]] = (held[1][0] % 2, ())
        elif kind == "wipe":
            frame.pop(parts[0], None)
        elif kind == "clear":
            for box in [box for box in frame if box.split(".")[0] == parts[0] and "." in box]:
                del frame[box]
        elif kind == "drop":
            self.leave(place, frame, parts[0])
            for box in parts[0]:
                frame.pop(box, None)


def plain_run(program, answers, most):
    """What run tells, of answers that can be given."""
    now = PlainRun(program)
    words = now.play("", program[1], {}, ())
    steps, given, send = 0, 0, None
    try:
        while True:
            place, word = words.send(send)
            wants = word[0] in ("take", "ask", "choose", "risk")
            if steps == most or (wants and given == len(answers)):
                held = sorted((box, *what) for box, what in now.frames[-1].items() if what != (0, ()))
                return ("on", place, steps, tuple(now.told), tuple(now.left), tuple(held))
            steps += 1
            send = answers[given] if wants else 0
            given += wants
    except StopIteration:
        return ("ended", steps, tuple(now.told), tuple(now.left))
    except Fault as went:
        return ("fault", went.args[0], steps, tuple(now.told), tuple(now.left))


def left_of(told):
    """What is left, of what a run tells."""
    return told[3 if told[0] == "ended" else 4]


def told_of(told):
    """The numbers that are told, of what a run tells."""
    return told[2 if told[0] == "ended" else 3]


def some_run_leaves(program, most):
    """Whether some run leaves something in so many steps, by all answers that may lead other ways."""
    due = [()]
    while due:
        answers = due.pop()
        try:
            told = run(program, answers, most)
        except NoAnswer:
            continue
        if left_of(told):
            return True
        if told[0] == "on" and told[2] < most:
            due += [answers + (answer,) for answer in range(4)]
    return False


def graph_of(program, name):
    """Of each place of a row its word and the places to which this may lead, told anew by what goes on behind."""
    row = program[1] if name == "" else {one[0]: one[3] for one in program[0]}[name]
    graph = {(name, len(row)): (None, [])}
    link(graph, row, (name,), (name, len(row)), [])
    return graph


def link(graph, row, ahead, after, outs):
    for at, word in enumerate(row):
        place = ahead + (at,)
        on = ahead + (at + 1,) if at + 1 < len(row) else after
        if word[0] == "choose":
            leads = [place + (number, 0) if inner else on for number, inner in enumerate(word[1])]
            for number, inner in enumerate(word[1]):
                link(graph, inner, place + (number,), on, outs)
        elif word[0] == "loop":
            leads = [place + (0, 0) if word[1] else place]
            link(graph, word[1], place + (0,), place, [on] + outs)
        elif word[0] == "out":
            leads = [outs[word[1] - 1]]
        else:
            leads = [] if word[0] in ("fault", "back") else [on]
        graph[place] = (word, leads)


class Explored:
    """All that some way does from the beginning of a row on, found by going all of them, calls too, state by state.

    A state is what is held, as pairs of box and source, in the row and in each def that it waits for. whole is
    False where there were too many states; fewest is how many steps it takes to leave something, None of none.
    """

    def __init__(self, program, name, most=2000):
        self.defs = {one[0]: one for one in program[0]}
        self.graphs = {one: graph_of(program, one) for one in list(self.defs) + [""]}
        self.results = self.defs[name][2] if name else ()
        self.notes = {place: None for place in self.graphs[name]}
        self.back, self.faults, self.flows, self.stays = False, False, set(), set()
        self.fewest, self.steps, self.left_first = None, 0, set()
        params = self.defs[name][1] if name else ()
        first = self.settled((((name, 0), frozenset((box, "@" + box) for box in params)),))
        seen, states = set(first), first
        while states and len(seen) < most:
            self.steps += 1
            states = sorted({one for state in states for one in self.after(state)} - seen, key=repr)
            seen.update(states)
        self.whole = not states

    def leave(self, place, pairs):
        self.stays |= {source for box, source in pairs}
        if pairs and self.fewest in (None, self.steps):
            self.fewest = self.steps
            self.left_first |= {(place, box) for box, source in pairs}

    def settled(self, state):
        """The states in which what is due at ends is done: none where it ended."""
        place, pairs = state[-1]
        if len(state) == 1:
            self.notes[place] = (self.notes[place] or frozenset()) | pairs
        return [state] if self.graphs[place[0]][place][0] is not None else self.gone_back(state)

    def gone_back(self, state):
        place, pairs = state[-1]
        results = self.defs[place[0]][2] if place[0] else ()
        self.leave(place, {pair for pair in pairs if pair[0] not in results})
        if len(state) == 1:
            self.back = True
            self.flows |= {(source, results.index(box)) for box, source in pairs if box in results}
            return []
        outer, held = state[-2]
        word, leads = self.graphs[outer[0]][outer]
        gets = dict(zip(results, word[3]))
        held = {pair for pair in held if pair[0] not in word[3]}
        held |= {(gets[box], source) for box, source in pairs if box in gets}
        return self.settled(state[:-2] + ((leads[0], frozenset(held)),))

    def faulted(self, state):
        self.faults = True
        for place, pairs in reversed(state):
            self.leave(place, pairs)

    def after(self, state):
        place, pairs = state[-1]
        word, leads = self.graphs[place[0]][place]
        if word[0] in ("risk", "fault"):
            self.faulted(state)
        if word[0] == "back":
            return self.gone_back(state)
        if word[0] == "call":
            params = dict(zip(word[2], self.defs[word[1]][1]))
            inner = frozenset((params[box], source) for box, source in pairs if box in params)
            kept = frozenset(pair for pair in pairs if pair[0] not in params)
            return self.settled(state[:-1] + ((place, kept), ((word[1], 0), inner)))
        if word[0] == "drop":
            self.leave(place, {pair for pair in pairs if pair[0] in word[1]})
        held = self.held_after(word, pairs)
        return [one for on in leads for one in self.settled(state[:-1] + ((on, held),))]

    @staticmethod
    def held_after(word, pairs):
        kind, parts = word[0], word[1:]
        put = set()
        gone = ()
        if kind in ("take", "ask", "number", "copy", "mix", "open", "wipe"):
            gone = (parts[0],)
        if kind == "take":
            put = {(parts[0], parts[1])}
        if kind in ("copy", "mix"):
            put = {(parts[0], source) for box, source in pairs if box in parts[1:]}
        if kind == "drop":
            gone = parts[0]
        if kind == "clear":
            gone = [box for box, source in pairs if box.split(".")[0] == parts[0] and "." in box]
        return frozenset(put | {pair for pair in pairs if pair[0] not in gone})

    def sheet(self, name):
        """The sheet that this makes of what was looked at."""
        notes = tuple(
            (place, None if self.notes[place] is None else tuple(sorted(self.notes[place])))
            for place in sorted(self.notes)
        )
        return (name, notes, (self.back, self.faults, tuple(sorted(self.flows)), tuple(sorted(self.stays))))


def names_in(program):
    """All names that stand anywhere in a program: of defs, boxes, records, worths and faults, behind dots too."""
    names = set()
    due = [program]
    while due:
        thing = due.pop()
        if isinstance(thing, tuple):
            due += thing
        elif isinstance(thing, str):
            names.update(thing.split("."))
    return names - WORDS


WORDS = set((
    "take ask number copy mix open tell wipe clear drop choose loop out risk fault call back def main"
).split())


def asked_from(program, place):
    """The boxes asked behind a place, told anew: each one by going all ways from the place on."""
    graph = graph_of(program, place[0])
    results = {one[0]: one[2] for one in program[0]}.get(place[0], ())
    boxes = sorted({box for word, leads in graph.values() if word for box in named_by(word)} | set(results))
    return tuple(box for box in boxes if is_asked(program, graph, results, place, box))


def named_by(word):
    """The boxes that a word itself names."""
    kind, parts = word[0], word[1:]
    if kind in ("drop", "call"):
        return [box for boxes in parts if isinstance(boxes, tuple) for box in boxes]
    if kind in ("take", "ask", "number", "copy", "mix", "open", "tell", "wipe"):
        return [part for part in parts[:1 if kind == "take" else 3] if isinstance(part, str)]
    return []


def is_asked(program, graph, results, place, box):
    seen, due = set(), [place]
    while due:
        place = due.pop()
        word, leads = graph[place]
        kind, parts = (word[0], word[1:]) if word else ("back", ())
        if box in {"copy": parts[1:], "mix": parts[1:], "open": parts[1:], "tell": parts, "back": results,
                   "call": parts[1:2] and parts[1]}.get(kind, ()):
            return True
        gone = {"wipe": parts, "drop": parts and parts[0], "call": sum(parts[1:], ()) if kind == "call" else ()}
        if kind == "clear":
            taken = box.split(".")[0] == parts[0] and "." in box
        else:
            puts = kind in ("take", "ask", "number", "copy", "mix", "open")
            taken = box in (parts[:1] if puts else gone.get(kind, ()))
        if place not in seen and not taken and (kind != "call" or comes_back(program, parts[0])):
            due += leads
        seen.add(place)
    return False


def comes_back(program, name):
    """Whether some way leads through the def, by going to all places to which some way leads."""
    graph = graph_of(program, name)
    seen, due = set(), [(name, 0)]
    while due:
        place = due.pop()
        word, leads = graph[place]
        if word is None or word[0] == "back":
            return True
        if place not in seen and (word[0] != "call" or comes_back(program, word[1])):
            due += leads
        seen.add(place)
    return False


class Seen:
    """A main row without defs told anew for wipes: what may be held at each place, what is asked behind it, and the
    ways of a box; whole is False where there was too much to be gone through."""

    def __init__(self, program, most=2000):
        found = Explored(program, "", most)
        self.graph = graph_of(program, "")
        self.whole = found.whole
        self.notes = found.notes
        self.asked = {place: asked_from(program, place) for place in self.graph}
        self.boxes = sorted({box for word, leads in self.graph.values() if word for box in named_by(word)})

    def may_hold(self, place, box):
        return any(one == box for one, source in self.notes[place] or ())

    def may_wipe(self, place, box):
        word = self.graph[place][0]
        return (word is None or word[0] != "loop") and box not in self.asked[place]

    def may_wipes(self):
        """All wipes that may be put in, of boxes that the row names, rising."""
        return tuple((place, box) for place in sorted(self.graph) for box in self.boxes if self.may_wipe(place, box))

    def begins(self, box):
        """Where the ways of a box begin."""
        found = set()
        for place, (word, leads) in self.graph.items():
            if word and self.notes[place] is not None and word[0] in ("take", "copy", "mix") and word[1] == box:
                if word[0] == "take" or any(self.may_hold(place, one) for one in word[2:]):
                    found.update(leads)
        return found

    def goes_on(self, place, box):
        word, leads = self.graph[place]
        if word is None or (box, "?") not in Explored.held_after(word, frozenset([(box, "?")])):
            return []
        # A word that puts into the box what it holds puts into it nevertheless.
        return [] if word[0] in ("copy", "mix") and word[1] == box else leads

    def ends(self, place, box):
        word = self.graph[place][0]
        return word is None or word[0] in ("back", "fault", "risk") or (word[0] == "drop" and box in word[1])

    def is_way(self, box, way):
        steps = all(after in self.goes_on(place, box) for place, after in zip(way, way[1:]))
        return len(way) > 0 and way[0] in self.begins(box) and steps and self.ends(way[-1], box)

    def are_apart(self, box, one, other):
        return not any(self.may_wipe(place, box) for place in set(one) & set(other))

    def stays(self):
        """The first risk, and its first box, of what stays whatever is wiped; or None."""
        for place in sorted(self.graph):
            word = self.graph[place][0]
            for box in self.asked[place]:
                if word and word[0] == "risk" and self.may_hold(place, box):
                    return (place, box)
        return None


def with_wipes(program, wipes):
    """The program with wipes put in, told anew: the last one first, so that no other one is moved."""
    row = listed(program[1])
    for place, box in reversed(wipes):
        inner = row
        for at in range(1, len(place) - 2, 2):
            word = inner[place[at]]
            inner = word[1][place[at + 1]] if word[0] == "choose" else word[1]
        inner.insert(place[-1], ["wipe", box])
    return ((), tupled(row))


def listed(thing):
    return [listed(part) for part in thing] if isinstance(thing, tuple) else thing


def tupled(thing):
    return tuple(tupled(part) for part in thing) if isinstance(thing, list) else thing
