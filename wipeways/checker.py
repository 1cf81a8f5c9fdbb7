"""The small checker: whether anything is a paper of a program, whoever wrote it."""

from wipeways.facts import AT_PARAM, facts_after, first_facts
from wipeways.names import is_box, is_name
from wipeways.places import places_of
from wipeways.steps import Look, head_of
from wipeways.tables import tables_of
from wipeways.words import is_rising, is_tuple_of, is_whole, names_of


def is_source(thing, params):
    """Whether anything is a source in a row with these params."""
    return is_name(thing) or (isinstance(thing, str) and thing in [AT_PARAM + box for box in params])


def is_pair(thing, params):
    """Whether anything is a pair in a row with these params."""
    return is_tuple_of(thing, 2) and is_box(thing[0]) and is_source(thing[1], params)


def is_flow(thing, params, results):
    """Whether anything is a flow of a def with these params and results."""
    if not is_tuple_of(thing, 2) or not is_source(thing[0], params):
        return False
    return is_whole(thing[1]) and 0 <= thing[1] < len(results)


def is_note(thing, place, params):
    """Whether anything is a note of this place."""
    if not is_tuple_of(thing, 2) or thing[0] != place:
        return False
    # Truths are the same as numbers to Python, but are no numbers of a place.
    if not all(is_whole(number) for number in thing[0][1:]):
        return False
    pairs = thing[1]
    if pairs is None:
        return True
    return isinstance(pairs, tuple) and all(is_pair(pair, params) for pair in pairs) and is_rising(pairs)


def are_notes(thing, places, params):
    """Whether anything is notes of just these places, in order."""
    if not is_tuple_of(thing, len(places)):
        return False
    return all(is_note(note, place, params) for note, place in zip(thing, places))


def is_table(thing, params, results):
    """Whether anything is a table of a def with these params and results; the main row has neither."""
    if not is_tuple_of(thing, 4):
        return False
    back, faults, flows, stays = thing
    if not isinstance(back, bool) or not isinstance(faults, bool):
        return False
    if not isinstance(flows, tuple) or not all(is_flow(flow, params, results) for flow in flows):
        return False
    if not isinstance(stays, tuple) or not all(is_source(source, params) for source in stays):
        return False
    return is_rising(flows) and is_rising(stays)


def is_sheet(program, name, thing):
    """Whether anything has the form of a sheet of the def of that name, or of the main row of ""."""
    if not is_tuple_of(thing, 3) or thing[0] != name:
        return False
    params, results = head_of(program, name)
    return are_notes(thing[1], places_of(program, name), params) and is_table(thing[2], params, results)


def has_form(program, thing):
    """Whether anything has the form of a paper of the program."""
    names = names_of(program)
    if not is_tuple_of(thing, len(names)):
        return False
    return all(is_sheet(program, name, sheet) for name, sheet in zip(names, thing))


def facts_in(sheet):
    """All facts that the sheet tells."""
    name, notes, table = sheet
    back, faults, flows, stays = table
    told = [("at", place, None) for place, pairs in notes if pairs is not None]
    told.extend([("at", place, pair) for place, pairs in notes if pairs is not None for pair in pairs])
    told.extend([("flow", source, number) for source, number in flows])
    told.extend([("stay", source) for source in stays])
    if back:
        told.append(("back",))
    if faults:
        told.append(("faults",))
    return told


def holds(look, sheet):
    """Whether the sheet tells what is true at first, and all that follows from what it tells."""
    told = facts_in(sheet)
    known = {fact: True for fact in told}
    if not all(fact in known for fact in first_facts(look)):
        return False
    for fact in told:
        if fact[0] == "at":
            follow = facts_after(look, fact[1], fact[2])
            if not all(one in known for one in follow):
                return False
    return True


def is_paper(program, thing):
    """Whether anything is a paper of the program, by the tables that it tells itself."""
    if not has_form(program, thing):
        return False
    tables = tables_of(thing)
    return all(holds(Look(program, sheet[0], tables), sheet) for sheet in thing)


def lets_by(program, thing):
    """Whether anything is a paper of the program by which the main row leaves nothing."""
    return is_paper(program, thing) and thing[-1][2][3] == ()
