"""What is seen of a row by looking at all of its ways: what may be held at each place, and what is asked behind it."""

from wipeways.asking import asked_in
from wipeways.errors import NoRow
from wipeways.steps import Look
from wipeways.tables import facts_of, notes_of


class Sight:
    """A row that is looked at, by the tables of the defs that it calls; notes and asked are by places."""

    def __init__(self, look):
        self.look = look
        self.notes = {place: pairs for place, pairs in notes_of(look, facts_of(look))}
        self.asked = asked_in(look)

    def word_there(self, place):
        """The word at the place, None at an end."""
        return self.look.links[place][0]

    def may_hold(self, place, box):
        """Whether a pair of the box is noted at the place."""
        pairs = self.notes[place]
        return pairs is not None and any(one == box for one, source in pairs)


def refuse_defs(program):
    """Refuses a program that has defs, with NoRow."""
    if len(program[0]) > 0:
        raise NoRow("here programs have no defs")


def sight_of_main(program):
    """The sight of the main row of a program that has no defs, or NoRow."""
    refuse_defs(program)
    return Sight(Look(program, "", {}))
