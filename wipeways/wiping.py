"""Wipes put into programs that have no defs: the fewest by which a program is let by."""

from wipeways.apart import begins_of, goes_on, may_end, may_wipe
from wipeways.names import is_box
from wipeways.nets import Net
from wipeways.papers import is_let_by
from wipeways.places import is_place
from wipeways.sights import refuse_defs, sight_of_main
from wipeways.words import boxes_in, is_rising, is_tuple_of, made_word, rows_of

# Each place is two nodes of a net, so that between them no more pass than wipes are needed to stop.
TO = "to"
ON = "on"


def row_with(row, ahead, wipes):
    """The row with these wipes, by places, put in; the places of its words begin with what is told ahead."""
    words = []
    for at, word in enumerate(row):
        place = ahead + (at,)
        words.extend(wipes.get(place, []))
        inner = [row_with(one, place + (number,), wipes) for number, one in enumerate(rows_of(word))]
        words.append(made_word(word[0], inner) if len(inner) > 0 else word)
    # Only the main row has an end.
    words.extend(wipes.get(ahead + (len(row),), []))
    return tuple(words)


def put_in(program, wipes):
    """The program with these wipes, or NoRow of a program with defs."""
    refuse_defs(program)
    by_places = {}
    for place, box in wipes:
        by_places.setdefault(place, []).append(("wipe", box))
    return ((), row_with(program[1], ("",), by_places))


def is_wipe(sight, thing):
    """Whether anything is a place, and a box that may be wiped there."""
    if not is_tuple_of(thing, 2) or not is_place(thing[0], sight.notes) or not is_box(thing[1]):
        return False
    return may_wipe(sight, thing[0], thing[1])


def wipes_do(program, thing):
    """Whether anything is wipes by which the program is let by; NoRow of a program with defs."""
    sight = sight_of_main(program)
    if not isinstance(thing, tuple) or not all(is_wipe(sight, one) for one in thing) or not is_rising(thing):
        return False
    return is_let_by(put_in(program, thing))


def net_of(sight, box):
    """The net of all ways of the box: so many pass between the two nodes of a place as are stopped by no wipe."""
    net = Net("start", "end")
    # More than can ever pass where wipes do.
    many = len(sight.notes) + 1
    due = begins_of(sight, box)
    for place in due:
        net.link("start", (place, TO), many)
    seen = {}
    while due:
        place = due.pop()
        if place not in seen:
            seen[place] = True
            net.link((place, TO), (place, ON), 1 if may_wipe(sight, place, box) else many)
            if may_end(sight, place, box):
                net.link((place, ON), "end", many)
            # A loop without words leads to itself.
            follow = [one for one in goes_on(sight, place, box) if one != place]
            for one in follow:
                net.link((place, ON), (one, TO), many)
            due.extend(follow)
    return net


def way_by(path):
    """The way along a path of nodes, without the rounds that lead back to one of its places."""
    way = []
    for place in [one for one, side in path if side == TO]:
        if place in way:
            way = way[:way.index(place)]
        way.append(place)
    return tuple(way)


def wiped_box(sight, box):
    """The fewest places of wipes of the box that stop all of its ways, and as many ways that are apart."""
    net = net_of(sight, box)
    reached, many = net.fill()
    places = [place for place in sight.notes if (place, TO) in reached and (place, ON) not in reached]
    return (places, tuple([way_by(net.take_path()) for number in range(many)]))


def first_stay(sight):
    """The first place of a risk, and the first box that may hold something there and is asked behind; or None."""
    for place in sorted(list(sight.notes)):
        word = sight.word_there(place)
        if word is not None and word[0] == "risk":
            boxes = [box for box in sight.asked[place] if sight.may_hold(place, box)]
            if len(boxes) > 0:
                return (place, boxes[0])
    return None


def wiped(program):
    """The fewest wipes that do, with as many ways that are apart; or where something stays whatever is wiped."""
    sight = sight_of_main(program)
    stay = first_stay(sight)
    if stay is not None:
        return ("stays", stay[0], stay[1])
    wipes = []
    ways = []
    for box in boxes_in(program[1]):
        places, ways_of_box = wiped_box(sight, box)
        wipes.extend([(place, box) for place in places])
        if len(ways_of_box) > 0:
            ways.append((box, ways_of_box))
    return ("wiped", tuple(sorted(wipes)), tuple(ways))
