"""Rounds: even lots that have no even part."""

from botheven.bounds import MAX_ROUNDS
from botheven.errors import TooMany, Unfit
from botheven.lots import is_even
from botheven.masks import lot_behind, mask_of
from botheven.paths import far_end, made_one, ways_from


def is_round(web, lot):
    """Tell whether the lot is a round."""
    # Some first round always parts from an even lot; it is all of a round, and less of any other one.
    return lot != () and is_even(web, lot) and _first_round(web, lot) == lot


def _first_round(web, lot):
    """Return a round in the lot that has its first tie; each tie of an even lot is on one."""
    one, other = web[1][lot[0]]
    way = ways_from(web, lot[1:], one)[other]
    return tuple(sorted((lot[0],) + way))


def rounds(web):
    """Return the tuple of all rounds, in order."""
    masks = []
    for tie in range(len(web[1])):
        found = _rounds_from(web, tie, MAX_ROUNDS - len(masks))
        masks.extend([mask_of(web, lot) for lot in found])
        if len(masks) > MAX_ROUNDS:
            raise TooMany(MAX_ROUNDS)
    return tuple([lot_behind(web, mask) for mask in sorted(masks)])


def _rounds_from(web, first, most):
    """Return the rounds whose least tie is first, or just more than most of them."""
    start, goal = web[1][first]
    near = _neighbours(web, first + 1)
    found = []
    waiting = [(start, (first,), 1 << start)]
    while waiting and len(found) <= most:
        place, taken, met = waiting.pop()
        if place == goal:
            found.append(taken)
            continue
        for tie in range(first + 1, len(web[1])):
            if place not in web[1][tie]:
                continue
            end = far_end(web, tie, place)
            # Without this look ahead a dense part behind one tie would be walked through in vain.
            if not met >> end & 1 and _reaches(near, end, goal, met):
                waiting.append((end, taken + (tie,), met | 1 << end))
    return found


def _neighbours(web, least):
    """Return for each place the mask of the places that ties from least on lead to."""
    near = [0] * web[0]
    for one, other in web[1][least:]:
        near[one] = near[one] | 1 << other
        near[other] = near[other] | 1 << one
    return near


def _reaches(near, start, goal, barred):
    """Tell whether a way leads from start to goal that meets no barred place."""
    reached = 1 << start
    waiting = [start]
    while waiting and not reached >> goal & 1:
        place = waiting.pop()
        for end in range(len(near)):
            if near[place] >> end & 1 and not (barred | reached) >> end & 1:
                reached = reached | 1 << end
                waiting.append(end)
    return reached >> goal & 1 == 1


def parted_even(web, lot):
    """Return rounds without common ties whose sum is the even lot."""
    if not is_even(web, lot):
        raise Unfit()
    found = []
    left = lot
    while left:
        part = _first_round(web, left)
        found.append(part)
        left = tuple([tie for tie in left if tie not in part])
    return tuple(found)


def first_tree(web):
    """Return the lot of the ties of the first tree."""
    taken = []
    part = tuple(range(web[0]))
    for tie, (one, other) in enumerate(web[1]):
        if part[one] != part[other]:
            taken.append(tie)
            part = made_one(part, part[one], part[other])
    return tuple(taken)


def tree_rounds(web):
    """Return the rounds that ties out of the first tree make with ties of it."""
    tree = first_tree(web)
    found = []
    for tie, (one, other) in enumerate(web[1]):
        if tie not in tree:
            way = ways_from(web, tree, one)[other]
            found.append(tuple(sorted(way + (tie,))))
    return tuple(found)
