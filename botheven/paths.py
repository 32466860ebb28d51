"""Going from place to place along some of a web's ties."""


def all_ties(web):
    """Return the tuple of all ties of the web."""
    return tuple(range(len(web[1])))


def far_end(web, tie, place):
    """Return the end of the tie that is not this place."""
    one, other = web[1][tie]
    return other if place == one else one


def ways_from(web, ties, start):
    """Return a dict: each place that ties lead to from start, with a way of fewest ties there."""
    found = {start: ()}
    queue = [start]
    # A place's ties are looked at in their order, so equal calls find equal ways.
    while queue:
        place = queue.pop(0)
        for tie in ties:
            if place not in web[1][tie]:
                continue
            goal = far_end(web, tie, place)
            if goal not in found:
                found[goal] = found[place] + (tie,)
                queue.append(goal)
    return found


def places_met(web, ties, start):
    """Return the ascending tuple of the places that ties lead to from start."""
    return tuple(sorted(ways_from(web, ties, start)))


def made_one(part, one, other):
    """Return the names of the parts of all places, the part named other being called one."""
    return tuple([one if name == other else name for name in part])
