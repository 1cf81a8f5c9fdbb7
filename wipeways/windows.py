"""Words taken away: those by which no run tells, ends or leaves another thing."""

from wipeways.asking import follow_of
from wipeways.errors import NoTurn
from wipeways.places import is_place, places_of, row_around, word_at
from wipeways.sights import Sight
from wipeways.steps import PUTTING, Look, asked_by, empties
from wipeways.tables import sheet_by, sheets_ahead, tables_of
from wipeways.words import is_tuple_of, made_word, names_of, rows_of

# In this order they are tried at a place.
RULES = ("same", "twice", "covered", "unread")
# The words that only make something of what is held already.
MAKING = ("number", "copy", "mix", "open")


def covers(word, box):
    """Whether what the box holds is gone behind the word, and the word doesn't ask it."""
    if word[0] in PUTTING:
        return word[1] == box and box not in asked_by(word)
    return word[0] in ("wipe", "clear") and empties(word, box)


def next_word(program, place):
    """The next word of the row in which the place stands, or None."""
    row = row_around(program, place)
    return row[place[-1] + 1] if place[-1] + 1 < len(row) else None


def is_unread(sight, place):
    """Whether nothing asks what the word at the place makes, and its box may hold nothing there."""
    word = sight.word_there(place)
    if word[0] not in MAKING or sight.may_hold(place, word[1]):
        return False
    return not any(word[1] in sight.asked[follow] for follow in follow_of(sight.look, place))


def rule_lets(sight, place, rule):
    """Whether the rule lets the word at the place go."""
    word = sight.word_there(place)
    follower = next_word(sight.look.program, place)
    if rule == "same":
        return word[0] == "copy" and word[1] == word[2]
    if rule == "twice":
        return word[0] in ("wipe", "clear") and word == follower
    if rule == "covered":
        return word[0] in MAKING and follower is not None and covers(follower, word[1])
    return is_unread(sight, place)


def row_without(row, numbers):
    """The row without the word at the place with these numbers behind its name."""
    at = numbers[0]
    if len(numbers) == 1:
        return row[:at] + row[at + 1:]
    rows = list(rows_of(row[at]))
    rows[numbers[1]] = row_without(rows[numbers[1]], numbers[2:])
    return row[:at] + (made_word(row[at][0], rows),) + row[at + 1:]


def without_word(program, place):
    """The program without the word at the place."""
    defs, row = program
    if place[0] == "":
        return (defs, row_without(row, place[1:]))
    numbers = place[1:]
    return (tuple([def_without(one, numbers) if one[0] == place[0] else one for one in defs]), row)


def def_without(one, numbers):
    """The def without the word at the place with these numbers behind its name."""
    name, params, results, row = one
    return (name, params, results, row_without(row, numbers))


def is_turn(program, thing):
    """Whether anything is a place of a word and a rule."""
    if not is_tuple_of(thing, 2) or thing[1] not in RULES:
        return False
    places = [place for name in names_of(program) for place in places_of(program, name)]
    return is_place(thing[0], places) and word_at(program, thing[0]) is not None


def turned(program, turn):
    """The program without the word that the turn, which may be anything, takes away; or NoTurn."""
    if not is_turn(program, turn):
        raise NoTurn("no place of a word, and a rule")
    place, rule = turn
    name = place[0]
    sight = Sight(Look(program, name, tables_of(sheets_ahead(program, name))))
    if not rule_lets(sight, place, rule):
        raise NoTurn("the rule does not let this word go")
    return without_word(program, place)


def first_turn(program, name, tables):
    """The first turn in the row of that name, by the tables of the defs that it calls; or None."""
    sight = Sight(Look(program, name, tables))
    for place in places_of(program, name):
        for rule in RULES:
            if sight.word_there(place) is not None and rule_lets(sight, place, rule):
                return (place, rule)
    return None


def shorter(program):
    """The program after all turns, each the first one that there is, and these turns."""
    turns = []
    tables = {}
    names = names_of(program)
    # A turn changes nothing for the defs ahead, so those that have none by then have none at the end.
    for name in names:
        turn = first_turn(program, name, tables)
        while turn is not None:
            turns.append(turn)
            program = without_word(program, turn[0])
            turn = first_turn(program, name, tables)
        tables[name] = sheet_by(program, name, tables)[2]
    return (program, tuple(turns))
