"""Ways without common ties between two places, and cuts of few ties that part them.

A flow has an item for each tie: 1 if it is gone along from its lesser end, -1 if from its greater one, 0 if not at all.
"""

from botheven.errors import Unfit
from botheven.lots import cut_of
from botheven.paths import far_end

_ENOUGH = 3


def _sign(web, tie, place):
    """Return the item of a flow that goes along the tie from this end."""
    return 1 if web[1][tie][0] == place else -1


def _steps_from(web, start, allowed):
    """Return a dict: each place that is reached, with the tie and the place that lead there.

    allowed has for each tie the signs with which it may be gone along.
    """
    found = {start: None}
    queue = [start]
    while queue:
        place = queue.pop(0)
        for tie, ends in enumerate(web[1]):
            if place in ends and _sign(web, tie, place) in allowed[tie]:
                goal = far_end(web, tie, place)
                if goal not in found:
                    found[goal] = (tie, place)
                    queue.append(goal)
    return found


def _way_back(found, goal):
    """Return the pairs of a tie and of the place that it is gone along from, which lead to goal."""
    steps = []
    while found[goal] is not None:
        tie, place = found[goal]
        steps.append((tie, place))
        goal = place
    return steps[::-1]


def _open_steps(web, flow, start):
    """Return what is reached from start along ties that are not gone along this way about already."""
    # A tie that is gone along the other way about may be taken back, so it is open too.
    return _steps_from(web, start, [[sign for sign in (1, -1) if sign != item] for item in flow])


def _flow_between(web, one, other):
    """Return a flow of as many ways as there are, three at most, how many, and the places open behind it."""
    flow = [0] * len(web[1])
    many = 0
    found = _open_steps(web, flow, one)
    while many < _ENOUGH and other in found:
        for tie, place in _way_back(found, other):
            flow[tie] += _sign(web, tie, place)
        many += 1
        found = _open_steps(web, flow, one)
    return flow, many, tuple(sorted(found))


def ways(web, one, other):
    """Return one, two or three ways from one to other without common ties, as many as there are."""
    flow, many, _ = _flow_between(web, one, other)
    found = []
    for _ in range(many):
        # The fewest steps along the flow meet no place twice; what goes round in it is left aside.
        steps = _way_back(_steps_from(web, one, [(item,) for item in flow]), other)
        found.append(tuple([tie for tie, place in steps]))
        for tie, place in steps:
            flow[tie] = 0
    return tuple(found)


def narrow_cut(web, one, other):
    """Return a cut that parts one from other, with as many ties as ways has ways, None if these are three."""
    _, many, reached = _flow_between(web, one, other)
    return cut_of(web, reached) if many < _ENOUGH else None


def fewest_cut(web, one, other):
    """Return a cut that parts one from other, with as many ties as there are ways, if these are fewer than three."""
    lot = narrow_cut(web, one, other)
    if lot is None:
        raise Unfit()
    return lot
