"""Point [14]: the small checker; of [3], that what it lets by notes all that any run holds; of [2], "of anything"."""

import copy
import random
import unittest

from things import Explored, deep, graph_of, made_program, no_texts
from wipeways.checker import is_paper, lets_by
from wipeways.papers import is_let_by, paper_of
from wipeways.texts import read_program

# d may fault, hands p and a worth back; e calls it, and never comes back on one way; back is reached ahead of an end.
PROGRAM = read_program(
    "def d ( p q ) ( r q ) { take z v mix r p z wipe z risk f wipe p }\n"
    "def e ( p ) ( p ) { call d ( p k ) ( p k ) choose { back | loop { } tell x | } wipe p }\n"
    "main { take x w take y u call d ( x y ) ( x y ) loop { choose { call e ( x ) ( x ) | out 1 } } fault f drop ( x ) }"
)
# Let by: nothing is held where it may fault.
CLEAN = read_program("def d ( p ) ( ) { wipe p risk f }\nmain { take x w call d ( x ) ( ) back tell x }")


def heads(program):
    return [one[:3] for one in program[0]] + [("", (), ())]


def changed(thing, path, part):
    """The tuple with another part where the path leads."""
    if not path:
        return part
    return thing[:path[0]] + (changed(thing[path[0]], path[1:], part),) + thing[path[0] + 1:]


def part_of(thing, path):
    for at in path:
        thing = thing[at]
    return thing


def put_in(things, one):
    return tuple(sorted(set(things) | {one}))


def full_paper(program, boxes=("a", "b", "k", "k.b", "p", "x"), worths=("u", "v", "w", "zzz")):
    """The paper that notes everything everywhere."""
    sheets = []
    for name, params, results in heads(program):
        sources = ["@" + box for box in params] + list(worths)
        pairs = tuple(sorted((box, source) for box in set(boxes) | set(params) | named(program) for source in sources))
        notes = tuple((place, pairs) for place in sorted(graph_of(program, name)))
        flows = tuple(sorted((source, number) for source in sources for number in range(len(results))))
        sheets.append((name, notes, (True, True, flows, tuple(sorted(sources)))))
    return tuple(sheets)


def named(program):
    """All texts in the program that may be boxes it names."""
    texts, due = set(), [program]
    while due:
        thing = due.pop()
        if isinstance(thing, tuple):
            due += thing
        elif isinstance(thing, str):
            texts.add(thing)
    tongue = "take ask number copy mix open tell wipe clear drop choose loop out risk fault call back def main"
    return texts - set(tongue.split(" "))


class PlainCheck:
    """Whether a thing of the right form is a paper, told anew: row by row, by sets of pairs."""

    def __init__(self, program, paper):
        self.params = {one[0]: one[1] for one in program[0]}
        self.tables = {name: table for name, notes, table in paper}
        self.right = all(self.sheet(program, head, sheet) for head, sheet in zip(heads(program), paper))

    def sheet(self, program, head, sheet):
        name, params, results = head
        notes = dict(sheet[1])
        back, faults, flows, stays = sheet[2]
        first = notes[(name, 0)]
        if first is None or not {(box, "@" + box) for box in params} <= set(first):
            return False
        for place, (word, leads) in graph_of(program, name).items():
            if notes[place] is None:
                continue
            held = set(notes[place])
            goes, held_on, left, ends, fails = self.word(word, held, results)
            if not {source for box, source in left} <= set(stays) or (ends and not back) or (fails and not faults):
                return False
            if ends and not {(source, results.index(box)) for box, source in held if box in results} <= set(flows):
                return False
            for on in leads if goes else []:
                if notes[on] is None or not held_on <= set(notes[on]):
                    return False
        return True

    def word(self, word, held, results):
        """Whether it leads on, what is held there, what is left; whether it comes back, and may end by a fault."""
        if word is None or word[0] == "back":
            return (False, set(), {pair for pair in held if pair[0] not in results}, True, False)
        if word[0] == "call":
            return self.call(word, held)
        if word[0] in ("risk", "fault"):
            return (word[0] == "risk", held, held, False, True)
        left = {pair for pair in held if word[0] == "drop" and pair[0] in word[1]}
        return (True, set(Explored.held_after(word, frozenset(held))), left, False, False)

    def call(self, word, held):
        back, faults, flows, stays = self.tables[word[1]]
        besides = {pair for pair in held if pair[0] not in word[2]}
        into = {source: {(None, source)} for source in list(stays) + [flow[0] for flow in flows] if source[0] != "@"}
        for param, arg in zip(self.params[word[1]], word[2]):
            into["@" + param] = {pair for pair in held if pair[0] == arg}
        left = set(besides) if faults else set()
        for source in stays:
            left |= into[source]
        on = {pair for pair in besides if pair[0] not in word[3]}
        for source, number in flows:
            on |= {(word[3][number], worth) for box, worth in into[source]}
        return (back, on, left, False, faults)


class CheckCase(unittest.TestCase):

    def paper(self, program, thing, lets=None):
        self.assertIs(is_paper(program, thing), True)
        self.assertIs(lets_by(program, thing), thing[-1][2][3] == () if lets is None else lets)

    def none(self, program, thing):
        self.assertIs(is_paper(program, thing), False)
        self.assertIs(lets_by(program, thing), False)


class TestLeast(CheckCase):

    def test_the_least_paper_is_a_paper(self):
        self.paper(PROGRAM, paper_of(PROGRAM), False)
        self.paper(CLEAN, paper_of(CLEAN), True)
        self.paper(((), ()), paper_of(((), ())), True)

    def test_by_chance(self):
        chance = random.Random(31)
        for _ in range(300):
            program = made_program(chance, most_defs=6, deep=4)
            self.paper(program, paper_of(program), is_let_by(program))

    def test_of_another_program(self):
        for one in (PROGRAM, CLEAN, ((), ()), ((), (("back",),))):
            for other in (PROGRAM, CLEAN, ((), ()), ((), (("tell", "x"), ("tell", "x")))):
                if one != other:
                    self.none(one, paper_of(other))
        self.none(((), (("take", "x", "w"),)), paper_of(((), (("ask", "x"),))))


class TestMore(CheckCase):

    def test_everything_everywhere(self):
        chance = random.Random(32)
        for program in [PROGRAM, CLEAN] + [made_program(chance, most_defs=3) for _ in range(50)]:
            self.paper(program, full_paper(program), False)

    def test_more_pairs_that_lead_no_further(self):
        # A place that no way leads to, behind which the end stands.
        paper = paper_of(CLEAN)
        self.assertEqual(paper[1][1][3], (("", 3), None))
        self.assertEqual(paper[1][1][4], (("", 4), None))
        noted = changed(paper, (1, 1, 4), (("", 4), ()))
        self.paper(CLEAN, noted, True)
        noted = changed(noted, (1, 1, 3), (("", 3), ()))
        self.paper(CLEAN, noted, True)
        self.none(CLEAN, changed(paper, (1, 1, 3), (("", 3), ())))
        noted = changed(noted, (1, 1, 4), (("", 4), (("any.box", "zzz"),)))
        self.none(CLEAN, noted)
        noted = changed(noted, (1, 2, 3), ("zzz",))
        self.paper(CLEAN, noted, False)

    def test_a_pair_more_is_followed(self):
        program = read_program("main { tell x wipe y tell z wipe x }")
        paper = paper_of(program)
        places = [place for place, pairs in paper[0][1]]
        for first in range(5):
            thing = paper
            for at in range(4, first - 1, -1):
                thing = changed(thing, (0, 1, at), (places[at], (("x", "w"),) if at < 4 else ()))
                self.paper(program, thing, True)
            for at in range(first + 1, 4):
                self.none(program, changed(thing, (0, 1, at), (places[at], ())))
        thing = changed(paper, (0, 1, 4), (("", 4), (("x", "w"),)))
        self.none(program, thing)
        self.paper(program, changed(thing, (0, 2, 3), ("w",)), False)

    def test_more_in_tables(self):
        program = read_program("def d ( p ) ( r s ) { wipe p loop { } }\nmain { take x w call d ( x ) ( x y ) wipe x }")
        paper = paper_of(program)
        self.assertEqual(paper[0][2], (False, False, (), ()))
        # By flows alone it doesn't lead on, by stays and faults something may be left.
        self.paper(program, changed(paper, (0, 2, 2), (("@p", 0), ("@p", 1), ("u", 1))), True)
        for path, part, stays in (
            ((0, 2, 3), ("@p",), ("w",)), ((0, 2, 3), ("u",), ("u",)), ((0, 2, 3), ("@p", "u"), ("u", "w")),
        ):
            self.none(program, changed(paper, path, part))
            self.paper(program, changed(changed(paper, path, part), (1, 2, 3), stays), False)
        self.none(program, changed(paper, (0, 2, 1), True))
        self.paper(program, changed(changed(paper, (0, 2, 1), True), (1, 2, 1), True), True)
        thing = changed(paper, (0, 2, 0), True)
        self.none(program, thing)
        thing = changed(thing, (1, 1), ((("", 0), ()), (("", 1), (("x", "w"),)), (("", 2), ()), (("", 3), ())))
        self.none(program, thing)
        thing = changed(thing, (1, 2, 0), True)
        self.paper(program, thing, True)
        thing = changed(thing, (0, 2, 2), (("@p", 0), ("u", 1)))
        self.none(program, thing)
        thing = changed(thing, (1, 1, 2), (("", 2), (("x", "w"), ("y", "u"))))
        self.none(program, thing)
        thing = changed(thing, (1, 1, 3), (("", 3), (("y", "u"),)))
        self.none(program, thing)
        self.paper(program, changed(thing, (1, 2, 3), ("u",)), False)

    def test_the_main_row_may_tell_more(self):
        program = read_program("main { loop { } }")
        paper = paper_of(program)
        self.assertEqual(paper[0][2], (False, False, (), ()))
        for table in ((True, False, (), ()), (True, True, (), ()), (False, True, (), ("w", "zzz"))):
            self.paper(program, changed(paper, (0, 2), table), table[3] == ())

    def test_all_that_is_told_more_is_needed_where_it_counts(self):
        # Boxes and sources that the program doesn't name.
        program = read_program("def d ( p ) ( p ) { tell p }\nmain { call d ( x ) ( x ) }")
        paper = paper_of(program)
        held = (("far.away", "new"), ("p", "@p"))
        thing = changed(paper, (0, 1), ((("d", 0), held), (("d", 1), held)))
        self.none(program, thing)
        thing = changed(thing, (0, 2, 3), ("new",))
        self.none(program, thing)
        self.paper(program, changed(thing, (1, 2, 3), ("new",)), False)


class TestLess(CheckCase):

    def less(self, paper):
        """All papers that tell one thing less."""
        for at, (name, notes, table) in enumerate(paper):
            for number, (place, pairs) in enumerate(notes):
                if pairs is not None:
                    yield changed(paper, (at, 1, number), (place, None))
                    for one in range(len(pairs)):
                        yield changed(paper, (at, 1, number, 1), pairs[:one] + pairs[one + 1:])
            for part in (0, 1):
                if table[part]:
                    yield changed(paper, (at, 2, part), False)
            for part in (2, 3):
                for one in range(len(table[part])):
                    yield changed(paper, (at, 2, part), table[part][:one] + table[part][one + 1:])

    def test_one_thing_less(self):
        for program in (PROGRAM, CLEAN):
            things = list(self.less(paper_of(program)))
            self.assertGreater(len(things), 10)
            for thing in things:
                self.none(program, thing)

    def test_by_chance(self):
        chance = random.Random(33)
        for _ in range(100):
            program = made_program(chance, most_defs=3, deep=3)
            for thing in self.less(paper_of(program)):
                self.none(program, thing)

    def test_first_places(self):
        program = read_program("def d ( p q ) ( ) { loop { } }\nmain { }")
        paper = paper_of(program)
        self.assertEqual(paper[0][1][0][1], (("p", "@p"), ("q", "@q")))
        for pairs in (None, (), (("p", "@p"),), (("q", "@q"),), (("p", "@q"), ("q", "@p")), (("p", "p"), ("q", "q"))):
            self.none(program, changed(paper, (0, 1, 0, 1), pairs))
        for pairs in ((("p", "@p"), ("p", "@q"), ("q", "@q")), (("a", "w"), ("p", "@p"), ("q", "@q"))):
            self.paper(program, changed(paper, (0, 1, 0, 1), pairs), True)


class TestAsToldAnew(CheckCase):

    def changes(self, chance, program, paper):
        """The paper with a few things more or less, by chance."""
        for _ in range(chance.randrange(1, 5)):
            at = chance.randrange(len(paper))
            name, params, results = heads(program)[at]
            source = chance.choice(["@" + box for box in params] + ["u", "w", "zzz"])
            kind = chance.choice(("note", "note", "note", "stay", "flow", "truth"))
            if kind == "note":
                number = chance.randrange(len(paper[at][1]))
                pairs = paper[at][1][number][1]
                box = chance.choice(("a", "b", "k.b", "zz"))
                pairs = put_in(pairs or (), (box, source)) if chance.random() < 0.7 else chance.choice((None, (), pairs))
                paper = changed(paper, (at, 1, number, 1), pairs)
            elif kind == "stay":
                paper = changed(paper, (at, 2, 3), put_in(paper[at][2][3], source))
            elif kind == "flow" and results:
                flow = (source, chance.randrange(len(results)))
                paper = changed(paper, (at, 2, 2), put_in(paper[at][2][2], flow))
            elif kind == "truth":
                paper = changed(paper, (at, 2, chance.randrange(2)), chance.choice((True, True, False)))
        return paper

    def test_by_chance(self):
        chance = random.Random(34)
        kinds = {True: 0, False: 0}
        for _ in range(1500):
            program = made_program(chance, most_defs=2, deep=2)
            base = chance.choice((paper_of(program), full_paper(program), paper_of(program)))
            thing = self.changes(chance, program, base)
            due = PlainCheck(program, thing).right
            kinds[due] += 1
            self.assertIs(is_paper(program, thing), due)
            self.assertIs(lets_by(program, thing), due and thing[-1][2][3] == ())
            if due:
                self.notes_all(program, thing)
        self.assertGreater(min(kinds.values()), 100)

    def notes_all(self, program, thing):
        """Whatever paper is let by notes all that the least one does."""
        for told, least in zip(thing, paper_of(program)):
            for (place, pairs), (same, fewest) in zip(told[1], least[1]):
                self.assertEqual(place, same)
                self.assertTrue(fewest is None or set(fewest) <= set(pairs))
            for part in (2, 3):
                self.assertLessEqual(set(least[2][part]), set(told[2][part]))
            self.assertTrue(least[2][0] <= told[2][0] and least[2][1] <= told[2][1])


class TestForm(CheckCase):

    def test_things_of_all_kinds(self):
        for thing in no_texts() + ["", "paper", deep(20), [deep(20)], {"": ()}, ((),), (None,), ("",), (((), (), ()),)]:
            for program in (PROGRAM, CLEAN, ((), ())):
                self.none(program, thing)

    def test_each_part_of_another_kind(self):
        wrong = [
            None, True, False, 0, 1, 2, -1, 10 ** 5000, "", "d", "w", "@p", (), ((),), ("w",), ("x", "w"), [], ["w"],
            {}, {"w": 1}, deep(20), [()], ("x", ["w"]), (1, 2), (None, None),
        ]
        for program in (PROGRAM, CLEAN):
            paper = paper_of(program)
            for path in self.paths(paper):
                part = part_of(paper, path)
                for other in wrong:
                    thing = changed(paper, path, other)
                    # Nothing but the form that is due may stand there; what has it is told anew.
                    if not self.right_kind(program, path, part, other):
                        self.none(program, thing)

    def paths(self, thing, ahead=()):
        yield ahead
        if isinstance(thing, tuple):
            for at, part in enumerate(thing):
                yield from self.paths(part, ahead + (at,))

    def right_kind(self, program, path, part, other):
        """Whether the other one is of a right kind at this path: where it is, other tests tell what is due."""
        if type(other) is type(part) and other == part:
            return True
        # Truths of tables, notes None or without pairs, flows and stays of other sources, pairs of other sources.
        if len(path) == 3 and path[1] == 2:
            return path[2] < 2 and isinstance(other, bool) or path[2] == 2 and other == () or path[2] == 3 and (
                isinstance(other, tuple) and all(one in ("w", "x", "d") for one in other))
        if len(path) == 4 and path[1] == 1 and path[3] == 1:
            return other is None or other == ()
        return path[1:2] in ((1,), (2,)) and len(path) >= 4 and other in ("d", "w", "@p")

    def test_truths_for_numbers_and_numbers_for_truths(self):
        paper = paper_of(PROGRAM)
        for at, (name, notes, table) in enumerate(paper):
            for number, (place, pairs) in enumerate(notes):
                for part, one in enumerate(place):
                    if one in (0, 1):
                        self.none(PROGRAM, changed(paper, (at, 1, number, 0, part), bool(one)))
            for part in (0, 1):
                for other in (int(table[part]), None, "True", "", (), []):
                    self.none(PROGRAM, changed(paper, (at, 2, part), other))
            for number, (source, result) in enumerate(table[2]):
                self.none(PROGRAM, changed(paper, (at, 2, 2, number, 1), bool(result)))
        self.assertIn(1, [flow[1] for flow in paper[0][2][2]])
        self.assertIn(0, [flow[1] for flow in paper[0][2][2]])

    def test_lists_for_tuples(self):
        for program in (PROGRAM, CLEAN):
            paper = paper_of(program)
            for path in self.paths(paper):
                part = part_of(paper, path)
                if isinstance(part, tuple):
                    self.none(program, changed(paper, path, list(part)))
                    self.none(program, changed(paper, path, {number: one for number, one in enumerate(part)}))

    def test_parts_less_and_more(self):
        paper = paper_of(PROGRAM)
        for path in self.paths(paper):
            part = part_of(paper, path)
            # Pairs, flows and stays may be more, and be fewer where that is told above.
            loose = len(path) == 4 and path[1] == 1 and path[3] == 1 or len(path) == 3 and path[1:] in ((2, 2), (2, 3))
            if isinstance(part, tuple) and not loose:
                self.none(PROGRAM, changed(paper, path, part[:-1]))
                self.none(PROGRAM, changed(paper, path, part[1:]))
                for more in (part[-1], None, (), "w", 0):
                    self.none(PROGRAM, changed(paper, path, part + (more,)))
                    self.none(PROGRAM, changed(paper, path, (more,) + part))

    def test_turned_about(self):
        paper = paper_of(PROGRAM)
        self.none(PROGRAM, (paper[1], paper[0], paper[2]))
        self.none(PROGRAM, paper[::-1])
        self.none(PROGRAM, (paper[0], paper[2], paper[1]))
        self.none(PROGRAM, (paper[0], paper[0], paper[2]))
        for path in self.paths(paper):
            part = part_of(paper, path)
            if isinstance(part, tuple) and part[::-1] != part:
                self.none(PROGRAM, changed(paper, path, part[::-1]))

    def test_other_names(self):
        paper = paper_of(PROGRAM)
        for at in range(3):
            for name in ("d", "e", "", "f", "main", None, 0, ("d",), ["d"], {}):
                if name != paper[at][0]:
                    self.none(PROGRAM, changed(paper, (at, 0), name))

    def test_places_twice_left_out_or_other_ones(self):
        paper = paper_of(PROGRAM)
        for at, (name, notes, table) in enumerate(paper):
            for number, (place, pairs) in enumerate(notes):
                self.none(PROGRAM, changed(paper, (at, 1), notes[:number] + notes[number + 1:]))
                self.none(PROGRAM, changed(paper, (at, 1), notes[:number] + notes[number:number + 1] + notes[number:]))
                for other in (place[:1] + (99,), ("x",) + place[1:], place + (0, 0), place[:-1], (), name, 0, None):
                    if other != place:
                        self.none(PROGRAM, changed(paper, (at, 1, number, 0), other))
            for number in range(len(notes) - 1):
                swapped = notes[:number] + (notes[number + 1], notes[number]) + notes[number + 2:]
                self.none(PROGRAM, changed(paper, (at, 1), swapped))

    def test_pairs_twice_or_not_rising(self):
        paper = full_paper(PROGRAM)
        for at, (name, notes, table) in enumerate(paper):
            for number in (0, len(notes) - 1):
                pairs = notes[number][1]
                for wrong in (pairs + pairs[-1:], pairs[:1] + pairs, (pairs[1], pairs[0]) + pairs[2:], pairs[::-1]):
                    self.none(PROGRAM, changed(paper, (at, 1, number, 1), wrong))
            for part in (2, 3):
                if table[part]:
                    things = table[part]
                    for wrong in (things + things[-1:], things[:1] + things, things[::-1]):
                        self.none(PROGRAM, changed(paper, (at, 2, part), wrong))
        self.paper(PROGRAM, paper, False)

    def test_pairs_that_are_none(self):
        program = read_program("def d ( p ) ( r ) { loop { } }\nmain { loop { } }")
        paper = paper_of(program)
        right = [("any", "zzz"), ("key.low", "w"), ("p", "w")]
        for pair in right:
            self.paper(program, changed(paper, (0, 1, 0, 1), put_in((("p", "@p"),), pair)), True)
            self.paper(program, changed(paper, (1, 1, 0, 1), (pair,)), True)
        self.paper(program, changed(paper, (0, 1, 0, 1), (("p", "@p"), ("q", "@p"))), True)
        wrong = [
            ("x", "@q"), ("x", "@r"), ("x", "@"), ("x", "@@p"), ("x", "p@"), ("x", "@p "), ("x", ""), ("x", "W"),
            ("x", "take"), ("x", "key.low"), ("x", "@key.low"), ("x", "abcdefghi"), ("X", "w"), ("", "w"), ("take", "w"),
            ("@p", "w"), ("x.y.z", "w"), ("x.", "w"), ("x",), ("x", "w", "w"), (), "xw", ["x", "w"], None, 0, True, "",
            ("x", None), (None, "w"), (1, 2), ("x", 0), ("x", True), ("x", ("w",)), (("x",), "w"), ("x", ["w"]), ({}, "w"),
        ]
        for pair in wrong:
            self.none(program, changed(paper, (0, 1, 0, 1), (("p", "@p"), pair)))
            self.none(program, changed(paper, (0, 1, 1, 1), (pair,)))
            self.none(program, changed(paper, (1, 1, 0, 1), (pair,)))
            self.none(program, changed(paper, (1, 1, 1, 1), (pair,)))
        self.none(program, changed(paper, (1, 1, 0, 1), (("x", "@p"),)))
        self.none(program, changed(paper, (1, 1, 0, 1), (("p", "@p"),)))

    def test_flows_and_stays_that_are_none(self):
        program = read_program("def d ( p key.low ) ( r s ) { loop { } }\nmain { loop { } }")
        paper = paper_of(program)
        for flow in (("@p", 0), ("@p", 1), ("@key.low", 1), ("w", 0), ("zzz", 1)):
            self.paper(program, changed(paper, (0, 2, 2), (flow,)), True)
            self.none(program, changed(paper, (1, 2, 2), (flow,)))
        for flow in (
            ("@p", 2), ("@p", -1), ("@p", True), ("@p", False), ("@p", None), ("@p", "0"), ("@p", 10 ** 5000),
            ("@q", 0), ("@r", 0), ("@", 0), ("", 0), ("take", 0), ("key.low", 0), ("@p",), ("@p", 0, 0), (0, "@p"),
            (), "@p", 0, None, True, ["@p", 0], {}, (None, 0), (("@p",), 0), (["@p"], 0), ("@p", (0,)),
        ):
            self.none(program, changed(paper, (0, 2, 2), (flow,)))
            self.none(program, changed(paper, (0, 2, 2), (("@key.low", 0), flow)))
            self.none(program, changed(paper, (1, 2, 2), (flow,)))
        for source in ("@p", "@key.low", "w", "zzz"):
            self.paper(program, changed(paper, (0, 2, 3), (source,)), True)
        for source in ("w", "zzz"):
            self.paper(program, changed(paper, (1, 2, 3), (source,)), False)
        for source in ("@q", "@r", "@", "", "take", "key.low", "W", 0, None, True, (), ("w",), ["w"], {}):
            self.none(program, changed(paper, (0, 2, 3), (source,)))
            self.none(program, changed(paper, (1, 2, 3), (source,)))
            self.none(program, changed(paper, (0, 2, 3), ("@p", source)))
        for source in ("@p", "@key.low"):
            self.none(program, changed(paper, (1, 2, 3), (source,)))

    def test_flows_of_a_def_without_results(self):
        program = read_program("def d ( p ) ( ) { loop { } }\nmain { }")
        for number in (0, 1, -1):
            self.none(program, changed(paper_of(program), (0, 2, 2), (("@p", number),)))
            self.none(program, changed(paper_of(program), (0, 2, 2), (("w", number),)))

    def test_sources_of_another_def(self):
        program = read_program("def d ( p ) ( ) { loop { } }\ndef e ( q ) ( ) { loop { } }\nmain { }")
        paper = paper_of(program)
        self.none(program, changed(paper, (0, 2, 3), ("@q",)))
        self.none(program, changed(paper, (1, 2, 3), ("@p",)))
        self.none(program, changed(paper, (1, 1, 1, 1), (("x", "@p"),)))


class TestKept(unittest.TestCase):

    def test_nothing_is_changed_and_the_same_is_told(self):
        paper = paper_of(PROGRAM)
        things = no_texts() + [paper, list(paper), [list(sheet) for sheet in paper], changed(paper, (0, 1), [])]
        things += [changed(paper, (1, 2), {"back": [True]})]
        kept = copy.deepcopy((PROGRAM, things))
        first = [(is_paper(PROGRAM, thing), lets_by(PROGRAM, thing)) for thing in things]
        again = [(is_paper(PROGRAM, thing), lets_by(PROGRAM, thing)) for thing in reversed(things)]
        self.assertEqual(first, again[::-1])
        self.assertEqual((PROGRAM, things), kept)


if __name__ == "__main__":
    unittest.main()
