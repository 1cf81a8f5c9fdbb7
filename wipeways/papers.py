"""Papers: the sheets of all defs and of the main row; and whether a program is let by."""

from wipeways.tables import sheet_by, sheets_ahead, tables_of


def paper_of(program):
    """The sheets of all defs, in their order, and of the main row, last."""
    sheets = sheets_ahead(program, "")
    return (*sheets, sheet_by(program, "", tables_of(sheets)))


def is_let_by(program):
    """Whether no run of the program leaves anything."""
    back, faults, flows, stays = paper_of(program)[-1][2]
    return stays == ()
