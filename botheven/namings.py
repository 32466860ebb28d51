"""Places named anew, and what is alike then."""

from botheven.bounds import MAX_MOVES, MAX_NAMED
from botheven.errors import TooMany, Unfit
from botheven.kinds import row_of, whole_within
from botheven.webs import matrix_of, renamed


def naming_error(many, value):
    """Return None for a naming of so many places, else what is wrong with value first."""
    if not row_of(value, many):
        return "form"
    for k, item in enumerate(value):
        if not whole_within(item, 0, many - 1) or item in value[:k]:
            return ("item", k)
    return None


def carried(web, names):
    """Return the web with its places named so."""
    return web[0], renamed(web[1], names)


def _need_few_places(web):
    """Raise TooMany if the web has too many places for all namings to be looked through."""
    if web[0] > MAX_NAMED:
        raise TooMany(MAX_NAMED)


def _namings(web, other, most):
    """Return the ascending list of the namings that lead to the ties of other, or just more than most of them."""
    here, there = matrix_of(web), matrix_of(other)
    # A place may only be named as one that has as many ties to as many places.
    fits = [[name for name, row in enumerate(there) if sorted(row) == sorted(lead)] for lead in here]
    found = []
    waiting = [()]
    while waiting and len(found) <= most:
        names = waiting.pop()
        if len(names) == web[0]:
            found.append(names)
            continue
        # What is put there last is gone on with first, so the least names come last.
        waiting.extend([names + (name,) for name in fits[len(names)][::-1] if _goes_on(here, there, names, name)])
    return found


def _goes_on(here, there, names, name):
    """Tell whether the next place may be named so behind those that have names."""
    lead, row = here[len(names)], there[name]
    return name not in names and all([lead[place] == row[other] for place, other in enumerate(names)])


def alike(web, other):
    """Return a naming by which the web has the same ties as other, None if there is none."""
    _need_few_places(web)
    if web[0] != other[0]:
        return None
    found = _namings(web, other, 0)
    return found[0] if found else None


def symmetries(web):
    """Return the ascending tuple of all symmetries."""
    _need_few_places(web)
    found = _namings(web, web, MAX_MOVES)
    if len(found) > MAX_MOVES:
        raise TooMany(MAX_MOVES)
    return tuple(found)


def tie_moves(web, names):
    """Return for each tie the one that it becomes by a symmetry."""
    if naming_error(web[0], names) is not None:
        raise Unfit()
    goals = renamed(web[1], names)
    if sorted(goals) != sorted(web[1]):
        raise Unfit()
    between = {}
    for tie, ends in enumerate(web[1]):
        between.setdefault(ends, []).append(tie)
    # Ties between the same places keep their order.
    return tuple([between[goal][between[ends].index(tie)] for tie, (ends, goal) in enumerate(zip(web[1], goals))])


def moved(web, names, standing):
    """Return the standing with the number of each tie on the one that it becomes."""
    numbers = list(standing)
    for tie, goal in enumerate(tie_moves(web, names)):
        numbers[goal] = standing[tie]
    return tuple(numbers)
