"""Families of webs, and how many lots the base of their both-even lots has, told by rules."""

from math import gcd

from botheven.bounds import MAX_PLACES, MAX_TIMES
from botheven.errors import Unfit
from botheven.kinds import row_of, whole_within

_MOST_FULL = 9
# The least sizes of each family.
_LEAST = {"ring": (2,), "wheel": (3,), "grid": (1, 1), "ladder": (1,), "full": (1,), "full two": (1, 1)}


def _need_size(value, low, high):
    """Raise Unfit if value is no size from low to high."""
    if not whole_within(value, low, high):
        raise Unfit()


def _path(first, last):
    """Return the list of ties from place to place, from first on to last."""
    return [(place, place + 1) for place in range(first, last)]


def ring(n):
    """Return the web of n places in a ring."""
    _need_size(n, 2, MAX_PLACES)
    return n, tuple(_path(0, n - 1) + [(0, n - 1)])


def wheel(n):
    """Return the web of a ring of n places and a hub, which has a tie to each of them."""
    _need_size(n, 3, MAX_PLACES - 1)
    spokes = [(0, place) for place in range(1, n + 1)]
    return n + 1, tuple(spokes + _path(1, n) + [(1, n)])


def grid(m, n):
    """Return the web of m rows of n places, with ties between neighbours."""
    _need_size(m, 1, MAX_PLACES)
    _need_size(n, 1, MAX_PLACES // m)
    rows = [(place, place + 1) for place in range(m * n) if (place + 1) % n != 0]
    return m * n, tuple(rows + [(place, place + n) for place in range((m - 1) * n)])


def ladder(n):
    """Return the web of two rows of n places."""
    return grid(2, n)


def full(n):
    """Return the web of n places with a tie between each two."""
    _need_size(n, 1, _MOST_FULL)
    return n, tuple([(one, other) for one in range(n) for other in range(one + 1, n)])


def full_two(m, n):
    """Return the web of m places and n places with a tie between each of these and each of those."""
    _need_size(m, 1, MAX_PLACES)
    _need_size(n, 1, MAX_PLACES - m)
    return m + n, tuple([(one, other) for one in range(m) for other in range(m, m + n)])


def _ring_many(n):
    """Tell it of a ring: all of its ties are a lot if they are even in number."""
    return 1 if n % 2 == 0 else 0


def _wheel_many(n):
    """Tell it of a wheel."""
    return 2 if n % 3 == 0 else 0


def _grid_many(m, n):
    """Tell it of a grid."""
    return gcd(m, n) - 1


def _ladder_many(n):
    """Tell it of a ladder."""
    return _grid_many(2, n)


def _full_many(n):
    """Tell it of a full web."""
    return n - 2 if n % 2 == 0 else 0


def _full_two_many(m, n):
    """Tell it of a full web of two sides: an even side leaves the other one its places to choose from, but for one."""
    if m % 2 == 0 and n % 2 == 0:
        return m + n - 3
    if m % 2 == 0:
        return n - 1
    return m - 1 if n % 2 == 0 else 0


_RULES = {
    "ring": _ring_many, "wheel": _wheel_many, "grid": _grid_many, "ladder": _ladder_many, "full": _full_many,
    "full two": _full_two_many,
}


def lot_many_of(word, sizes):
    """Return how many lots the base of the web of this family with these sizes has, however great the web is."""
    if not isinstance(word, str) or word not in _LEAST:
        raise Unfit()
    least = _LEAST[word]
    if not row_of(sizes, len(least)):
        raise Unfit()
    for size, low in zip(sizes, least):
        _need_size(size, low, MAX_TIMES)
    rule = _RULES[word]
    return rule(*sizes)
