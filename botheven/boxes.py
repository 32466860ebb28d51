"""Boxes: standings with numbers from 0 to a top, and the steps that stay within."""

from botheven.bounds import MAX_BOX, MAX_TOP
from botheven.errors import NoWay, TooMany, Unfit
from botheven.kinds import row_of, whole_within
from botheven.rounds import rounds
from botheven.webs import ties_at


def _need_small(web, top):
    """Raise TooMany if the box has too many standings."""
    many = 1
    for _ in web[1]:
        many = many * (top + 1)
    if many > MAX_BOX:
        raise TooMany(MAX_BOX)


def _need_inside(web, top, value):
    """Raise Unfit if value is no standing of the box."""
    if not row_of(value, len(web[1])) or not all([whole_within(item, 0, top) for item in value]):
        raise Unfit()


def _flags(items):
    """Return the integer with a figure for each item, 1 where it is true; the first one has the lowest."""
    flags = 0
    for k, item in enumerate(items):
        if item:
            flags = flags | 1 << k
    return flags


def _changes(web):
    """Return the list of all stars and rounds, without times, each with the flags of its ties."""
    targets = [("star", place, ties_at(web, place)) for place in range(web[0])]
    targets.extend([("round", lot, lot) for lot in rounds(web)])
    found = [(word, target, _flags([tie in lot for tie in range(len(web[1]))])) for word, target, lot in targets]
    # A star without ties leads nowhere else, so it is no step.
    return [change for change in found if change[2] != 0]


def _all_standings(web, top):
    """Return the list of all standings of the box, ascending."""
    found = [()]
    for _ in web[1]:
        found = [standing + (number,) for standing in found for number in range(top + 1)]
    return found


def _steps(changes, top, standing):
    """Return the list of the steps from a standing, each a pair of a deed and of the standing it leads to."""
    highest = _flags([number == top for number in standing])
    lowest = _flags([number == 0 for number in standing])
    found = []
    for word, target, flags in changes:
        for times, barred in ((1, highest), (-1, lowest)):
            if flags & barred == 0:
                goal = tuple([number + times * (flags >> tie & 1) for tie, number in enumerate(standing)])
                found.append(((word, target, times), goal))
    return found


def _part_from(changes, top, start):
    """Return a dict: each standing of the part of start, with the step there and where it comes from."""
    found = {start: None}
    queue = [start]
    # Standings that need fewer steps come first, so the ways that are told are short.
    while queue:
        standing = queue.pop(0)
        for deed, goal in _steps(changes, top, standing):
            if goal not in found:
                found[goal] = (deed, standing)
                queue.append(goal)
    return found


def box_parts(web, top):
    """Return how many parts the box falls into."""
    _need_small(web, top)
    changes = _changes(web)
    many, met = 0, {}
    for standing in _all_standings(web, top):
        if standing not in met:
            many += 1
            for other in _part_from(changes, top, standing):
                met[other] = True
    return many


def frozen(web, top):
    """Return the ascending tuple of the standings of the box from which there is no step."""
    _need_small(web, top)
    changes = _changes(web)
    return tuple([standing for standing in _all_standings(web, top) if not _steps(changes, top, standing)])


def box_part(web, top, standing):
    """Return the ascending tuple of all standings that are of one part with this one."""
    _need_small(web, top)
    _need_inside(web, top, standing)
    return tuple(sorted(_part_from(_changes(web), top, standing)))


def box_way(web, top, standing, other):
    """Return as few steps as can be that lead standing to other."""
    _need_small(web, top)
    _need_inside(web, top, standing)
    _need_inside(web, top, other)
    found = _part_from(_changes(web), top, standing)
    if other not in found:
        raise NoWay(len(found))
    deeds = []
    goal = other
    while found[goal] is not None:
        deed, goal = found[goal]
        deeds.append(deed)
    return tuple(deeds[::-1])


def least_top(web, standing, other):
    """Return the least top of a box in which both standings are of one part, None if there is none."""
    for top in range(max((1,) + standing + other), MAX_TOP + 1):
        _need_small(web, top)
        if other in _part_from(_changes(web), top, standing):
            return top
    return None
