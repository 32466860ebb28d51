"""Webs put together, and webs whose ties are laid several times or cut small."""

from botheven.bounds import MAX_PLACES, MAX_TIES
from botheven.errors import Unfit
from botheven.kinds import whole
from botheven.webs import renamed


def _need_room(places, ties):
    """Raise Unfit if a web may not have so many places or so many ties."""
    if places > MAX_PLACES or ties > MAX_TIES:
        raise Unfit()


def _need_times(value):
    """Raise Unfit if value is no integer from 1 on."""
    if not whole(value) or value < 1:
        raise Unfit()


def at_place(web, place, other, further):
    """Return both webs with these places of theirs made one."""
    many = web[0] + other[0] - 1
    _need_room(many, len(web[1]) + len(other[1]))
    names = list(range(web[0], many))
    names.insert(further, place)
    return many, web[1] + renamed(other[1], names)


def by_tie(web, place, other, further):
    """Return both webs and a tie between these places of theirs."""
    many = web[0] + other[0]
    _need_room(many, len(web[1]) + len(other[1]) + 1)
    names = list(range(web[0], many))
    return many, web[1] + renamed(other[1], names) + ((place, names[further]),)


def many_fold(web, m):
    """Return the web with each tie m times."""
    _need_times(m)
    _need_room(web[0], len(web[1]) * m)
    return web[0], tuple([ends for ends in web[1] for _ in range(m)])


def cut_small(web, m):
    """Return the web with m ties in a row for each tie."""
    _need_times(m)
    many = web[0] + len(web[1]) * (m - 1)
    _need_room(many, len(web[1]) * m)
    found = []
    for tie, (one, other) in enumerate(web[1]):
        least = web[0] + tie * (m - 1)
        row = [one] + list(range(least, least + m - 1)) + [other]
        found.extend([tuple(sorted(ends)) for ends in zip(row, row[1:])])
    return many, tuple(found)
