"""Sheets: what may be held at each place of a def or of the main row, and its table."""

from wipeways.facts import facts_after, first_facts
from wipeways.places import places_of
from wipeways.steps import Look


def facts_of(look):
    """All facts that are true of what is looked at."""
    known = {}
    due = first_facts(look)
    while due:
        fact = due.pop()
        if fact not in known:
            known[fact] = True
            if fact[0] == "at":
                due.extend(facts_after(look, fact[1], fact[2]))
    return known


def notes_of(look, known):
    """The notes that these facts make: None at places to which no way leads."""
    pairs = {fact[1]: [] for fact in known if fact[0] == "at"}
    for fact in known:
        if fact[0] == "at" and fact[2] is not None:
            pairs[fact[1]].append(fact[2])
    places = places_of(look.program, look.name)
    return tuple((place, tuple(sorted(pairs[place])) if place in pairs else None) for place in places)


def table_of(known):
    """The table that these facts make."""
    flows = sorted([fact[1:] for fact in known if fact[0] == "flow"])
    stays = sorted([fact[1] for fact in known if fact[0] == "stay"])
    return (("back",) in known, ("faults",) in known, tuple(flows), tuple(stays))


def sheet_by(program, name, tables):
    """The sheet of a def, or of the main row, by these tables of the defs that it calls."""
    look = Look(program, name, tables)
    known = facts_of(look)
    return (name, notes_of(look, known), table_of(known))


def sheets_ahead(program, name):
    """The sheets of the defs that stand ahead of the one of that name, of "" of all, in their order."""
    tables = {}
    sheets = []
    for one in program[0]:
        if one[0] == name:
            break
        sheet = sheet_by(program, one[0], tables)
        tables[one[0]] = sheet[2]
        sheets.append(sheet)
    return sheets


def tables_of(sheets):
    """The tables of these sheets, by their names."""
    return {name: table for name, notes, table in sheets}


def sheet_of(program, name):
    """The sheet of the def of that name, or of the main row of "", by the tables of the defs that it calls."""
    return sheet_by(program, name, tables_of(sheets_ahead(program, name)))
