"""Which boxes are asked behind a place."""

from wipeways.steps import PUTTING, Look, asked_by, empties
from wipeways.tables import sheets_ahead, tables_of


def follow_of(look, place):
    """The places that follow the word at the place: those to which it may lead."""
    word, leads = look.links[place]
    if word is not None and word[0] == "call" and not look.known[word[1]][0]:
        # The def never comes back.
        return []
    return [follow for answers, follow in leads]


def asked_at(look, place):
    """The boxes that the word at the place asks, or the end."""
    word = look.links[place][0]
    if word is None or word[0] == "back":
        return look.results
    return asked_by(word)


def takes_away(word, box):
    """Whether the word puts into the box, wipes, clears or drops it, hands it to a def, or gets it."""
    if word[0] in PUTTING:
        return box == word[1]
    if word[0] == "call":
        return box in word[2] or box in word[3]
    return empties(word, box)


def asked_in(look):
    """Of each place of what is looked at, by the tables of the defs that it calls: the boxes asked behind it."""
    ahead = {place: [] for place in look.links}
    for place in look.links:
        for follow in follow_of(look, place):
            ahead[follow].append(place)
    asked = {place: {} for place in look.links}
    due = [(place, box) for place in look.links for box in asked_at(look, place)]
    while due:
        place, box = due.pop()
        if box not in asked[place]:
            asked[place][box] = True
            due.extend([(one, box) for one in ahead[place] if not takes_away(look.links[one][0], box)])
    return {place: tuple(sorted(list(boxes))) for place, boxes in asked.items()}


def asked_behind(program, place):
    """The boxes that some way asks that goes on from the place, ahead of taking them away; rising."""
    name = place[0]
    look = Look(program, name, tables_of(sheets_ahead(program, name)))
    return asked_in(look)[place]
