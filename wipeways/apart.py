"""Ways of a box, from where something is put into it to where it may be left, and whether they are apart."""

from wipeways.asking import follow_of, takes_away
from wipeways.names import is_box
from wipeways.places import is_place
from wipeways.sights import sight_of_main
from wipeways.steps import leaves
from wipeways.words import is_rising, is_tuple_of


def may_wipe(sight, place, box):
    """Whether a wipe of the box may be put in at the place."""
    word = sight.word_there(place)
    if word is not None and word[0] == "loop":
        return False
    return box not in sight.asked[place]


def brings(sight, place, box):
    """Whether some way leads to the place, and its word puts what may hold something into the box."""
    word = sight.word_there(place)
    if sight.notes[place] is None or word is None:
        return False
    if word[0] not in ("take", "copy", "mix") or word[1] != box:
        return False
    return word[0] == "take" or any(sight.may_hold(place, one) for one in word[2:])


def begins_of(sight, box):
    """The places where a way of the box may begin."""
    bringing = [place for place in sight.notes if brings(sight, place, box)]
    return [follow for place in bringing for follow in follow_of(sight.look, place)]


def goes_on(sight, place, box):
    """The places to which a way of the box may go on from the place."""
    word = sight.word_there(place)
    if word is None or takes_away(word, box):
        return []
    return follow_of(sight.look, place)


def may_end(sight, place, box):
    """Whether a way of the box may end at the place."""
    return leaves(sight.word_there(place), box, ())


def is_way(sight, box, begins, thing):
    """Whether anything is a way of the box, which may begin at these places."""
    if not isinstance(thing, tuple) or len(thing) == 0:
        return False
    if not all(is_place(place, sight.notes) for place in thing) or thing[0] not in begins:
        return False
    if not all(follow in goes_on(sight, place, box) for place, follow in zip(thing, thing[1:])):
        return False
    return may_end(sight, thing[-1], box)


def are_apart(sight, box, ways):
    """Whether no two of these ways of the box share a place where it may be wiped."""
    seen = {}
    for way in ways:
        here = [place for place in way if may_wipe(sight, place, box)]
        if any(place in seen for place in here):
            return False
        seen.update({place: True for place in here})
    return True


def are_ways(sight, thing):
    """Whether anything is a box and ways of it, each two of them apart."""
    if not is_tuple_of(thing, 2) or not is_box(thing[0]) or not isinstance(thing[1], tuple):
        return False
    box, ways = thing
    begins = begins_of(sight, box)
    return all(is_way(sight, box, begins, way) for way in ways) and are_apart(sight, box, ways)


def ways_apart(program, thing):
    """Whether anything is a tuple of boxes, rising, with ways of each that are apart; NoRow of a program with defs."""
    sight = sight_of_main(program)
    if not isinstance(thing, tuple) or not all(are_ways(sight, one) for one in thing):
        return False
    return is_rising([one[0] for one in thing])
