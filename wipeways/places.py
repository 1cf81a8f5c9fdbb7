"""Places: where each word of a row stands, and what stands behind it."""

from wipeways.words import is_whole, row_of, rows_of


def row_around(program, place):
    """The row in which the place stands."""
    row = row_of(program, place[0])
    for at in range(1, len(place) - 2, 2):
        row = rows_of(row[place[at]])[place[at + 1]]
    return row


def places_of(program, name):
    """All places of the main row of "", or of the def of that name, and its end, rising."""
    row = row_of(program, name)
    found = [(name, len(row))]
    due = [((name,), row)]
    while due:
        ahead, inner = due.pop()
        for at, word in enumerate(inner):
            place = ahead + (at,)
            found.append(place)
            due.extend([(place + (number,), one) for number, one in enumerate(rows_of(word))])
    return tuple(sorted(found))


def is_place(thing, places):
    """Whether anything is one of these places."""
    if not isinstance(thing, tuple) or len(thing) == 0 or not isinstance(thing[0], str):
        return False
    # To Python ("", True) is the same as ("", 1), and what can be no key may stand in anything.
    return all(is_whole(number) for number in thing[1:]) and thing in places


def word_at(program, place):
    """The word at the place, None at an end."""
    row = row_around(program, place)
    if place[-1] < len(row):
        return row[place[-1]]
    return None


def behind(program, place):
    """The place that stands behind the word at the place."""
    while True:
        row = row_around(program, place)
        if place[-1] + 1 < len(row):
            return place[:-1] + (place[-1] + 1,)
        if len(place) == 2:
            return (place[0], len(row))
        place = place[:-2]
        if word_at(program, place)[0] == "loop":
            return place


def first_place(program, name):
    """Where the main row of "", or the def of that name, begins; of a row without words this is its end."""
    return (name, 0)


def inside(program, place, number):
    """The first place of the row of that number in the word at the place."""
    word = word_at(program, place)
    if len(rows_of(word)[number]) > 0:
        return place + (number, 0)
    if word[0] == "loop":
        return place
    return behind(program, place)


def out_of(program, place, n):
    """Where an out leads that stands at the place: behind the n-th loop around it, the innermost first."""
    around = place
    while n > 0:
        around = around[:-2]
        if word_at(program, around)[0] == "loop":
            n -= 1
    return behind(program, around)
