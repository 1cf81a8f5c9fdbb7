"""Papers: the sheets of all defs and of the main row; and whether a program is let by."""

from wipeways.tables import sheets_to


def paper_of(program):
    """The sheets of all defs, in their order, and of the main row, last."""
    return tuple(sheets_to(program, ""))


def is_let_by(program):
    """Whether no run of the program leaves anything."""
    back, faults, flows, stays = paper_of(program)[-1][2]
    return stays == ()
