"""Facts of a row that is looked at alone, and which facts follow from each.

A fact is ("at", place, pair): some way brings the pair to the place (None for a pair: some way leads there);
("flow", source, number), ("stay", source), ("back",) or ("faults",), as the table tells them. Each fact that
follows does so from one fact, so all that are true are found by following each one once.
"""

from wipeways.places import first_place
from wipeways.steps import head_of, leaves, moved

AT_PARAM = "@"


def first_facts(look):
    """What is true at the beginning: each param holds what came from itself."""
    first = first_place(look.program, look.name)
    params = [("at", first, (box, AT_PARAM + box)) for box in look.params]
    return [("at", first, None)] + params


def facts_of_way(word, leads):
    """What follows from it that some way leads to the word, whatever is held there."""
    found = [("at", place, None) for answers, place in leads]
    if word is None or word[0] == "back":
        found.append(("back",))
    elif word[0] == "fault" or word[0] == "risk":
        found.append(("faults",))
    elif word[0] == "take":
        found.extend([("at", place, (word[1], word[2])) for answers, place in leads])
    return found


def facts_of_pair(word, leads, results, pair):
    """What follows from it that some way brings the pair to the word."""
    box, source = pair
    found = [("at", place, (one, source)) for answers, place in leads for one in moved(word, box)]
    if leaves(word, box, results):
        found.append(("stay", source))
    elif word is None or word[0] == "back":
        found.append(("flow", source, results.index(box)))
    return found


def facts_of_waiting(word, place, table, pair):
    """What follows where the pair stays with the caller; behind the call stands the place."""
    back, faults = table[:2]
    found = [("stay", pair[1])] if faults else []
    if back and pair[0] not in word[3]:
        found.append(("at", place, pair))
    return found


def brought(sources, place, word, table):
    """What follows where these come to the def as its sources: by each one its own, what it is to the caller."""
    back, faults, flows, stays = table
    found = [("stay", sources[source]) for source in stays if source in sources]
    if back:
        gets = word[3]
        found.extend([
            ("at", place, (gets[number], sources[source])) for source, number in flows if source in sources
        ])
    return found


def facts_of_call(look, word, place, pair):
    """What follows from the pair, or from None, at a call, behind which stands the place."""
    table = look.known[word[1]]
    back, faults, flows, stays = table
    if pair is None:
        # Worths that the def takes itself are the same to the caller.
        named = [source for source in stays] + [source for source, number in flows]
        found = brought({source: source for source in named if source[0] != AT_PARAM}, place, word, table)
        if back:
            found.append(("at", place, None))
        if faults:
            found.append(("faults",))
        return found
    box, source = pair
    if box not in word[2]:
        return facts_of_waiting(word, place, table, pair)
    param = head_of(look.program, word[1])[0][word[2].index(box)]
    return brought({AT_PARAM + param: source}, place, word, table)


def facts_after(look, place, pair):
    """The facts that follow from ("at", place, pair) by the word at the place."""
    word, leads = look.links[place]
    if word is not None and word[0] == "call":
        return facts_of_call(look, word, leads[0][1], pair)
    if pair is None:
        return facts_of_way(word, leads)
    return facts_of_pair(word, leads, look.results, pair)
