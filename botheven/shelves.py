"""Shelves, and the edits that make other shelves of them.

A shelf is an ascending tuple of triples of a name, a web and a standing. An edit is a tuple of a word and of arguments.
"""

from botheven.bounds import BATCH, MAX_NAMES
from botheven.deeds import deed_error, done
from botheven.errors import BadBatch, BadStanding, BadWeb, BothError, NoName, NoTie, Rejected, Taken, TooMany, Unfit
from botheven.kinds import name_like, whole_within
from botheven.sorts import pinched
from botheven.standings import standing_error
from botheven.webs import web_error

# How many arguments each edit has.
_ARGUMENTS = {"add": 3, "drop": 1, "tie": 4, "untie": 2, "pinch": 2, "stand": 2, "do": 2, "batch": 1}


def is_edit(value):
    """Tell whether value is a tuple of the word of an edit and of as many arguments as it has."""
    if not isinstance(value, tuple) or value == ():
        return False
    word = value[0]
    return isinstance(word, str) and word in _ARGUMENTS and len(value) == 1 + _ARGUMENTS[word]


def place_of(shelf, name):
    """Return where the name stands on the shelf."""
    for place, row in enumerate(shelf):
        if row[0] == name:
            return place
    raise NoName(name)


def need_web(web):
    """Raise BadWeb if it is no web."""
    error = web_error(web)
    if error is not None:
        raise BadWeb(error)


def need_standing(web, standing):
    """Raise BadStanding if it is no standing of the web."""
    error = standing_error(web, standing)
    if error is not None:
        raise BadStanding(error)


def _without_item(row, place):
    """Return the row without its item at this place."""
    return row[:place] + row[place + 1:]


def _changed(shelf, place, web, standing):
    """Return the shelf with this web and standing for the name at this place."""
    return shelf[:place] + ((shelf[place][0], web, standing),) + shelf[place + 1:]


def _need_tie(web, value):
    """Raise NoTie if value is no tie of the web."""
    if not whole_within(value, 0, len(web[1]) - 1):
        raise NoTie(value)


def _added(shelf, name, web, standing):
    """Return the shelf with one more name."""
    if not name_like(name):
        raise Unfit()
    need_web(web)
    need_standing(web, standing)
    if name in [row[0] for row in shelf]:
        raise Taken(name)
    if len(shelf) == MAX_NAMES:
        raise TooMany(MAX_NAMES)
    return tuple(sorted(shelf + ((name, web, standing),)))


def _dropped(shelf, name):
    """Return the shelf without the name."""
    return _without_item(shelf, place_of(shelf, name))


def _tied(shelf, name, one, other, number):
    """Return the shelf with one more tie in the name's web."""
    place = place_of(shelf, name)
    _, (many, ties), standing = shelf[place]
    web, numbers = (many, ties + ((one, other),)), standing + (number,)
    need_web(web)
    need_standing(web, numbers)
    return _changed(shelf, place, web, numbers)


def _untied(shelf, name, tie):
    """Return the shelf without the tie in the name's web."""
    place = place_of(shelf, name)
    _, web, standing = shelf[place]
    _need_tie(web, tie)
    left = (web[0], _without_item(web[1], tie))
    need_web(left)
    return _changed(shelf, place, left, _without_item(standing, tie))


def _pinched_at(shelf, name, tie):
    """Return the shelf with the tie pinched in the name's web."""
    place = place_of(shelf, name)
    _, web, standing = shelf[place]
    _need_tie(web, tie)
    return _changed(shelf, place, pinched(web, tie), _without_item(standing, tie))


def _restood(shelf, name, standing):
    """Return the shelf with another standing of the name."""
    place = place_of(shelf, name)
    web = shelf[place][1]
    need_standing(web, standing)
    return _changed(shelf, place, web, standing)


def _done_at(shelf, name, deeds):
    """Return the shelf with the deeds done on the name's standing."""
    place = place_of(shelf, name)
    _, web, standing = shelf[place]
    if not isinstance(deeds, tuple) or any([deed_error(web, deed) is not None for deed in deeds]):
        raise Unfit()
    numbers = done(web, standing, deeds)
    need_standing(web, numbers)
    return _changed(shelf, place, web, numbers)


def _batched(shelf, edits):
    """Return the shelf behind some edits, none of them a batch."""
    if not isinstance(edits, tuple) or len(edits) > BATCH:
        raise BadBatch()
    if not all([is_edit(edit) and edit[0] != "batch" for edit in edits]):
        raise BadBatch()
    for index, edit in enumerate(edits):
        try:
            shelf = edited(shelf, edit)
        except BothError:
            raise Rejected(index) from None
    return shelf


_CHANGES = {
    "add": _added, "drop": _dropped, "tie": _tied, "untie": _untied, "pinch": _pinched_at, "stand": _restood,
    "do": _done_at, "batch": _batched,
}


def edited(shelf, edit):
    """Return the shelf behind an edit."""
    change = _CHANGES[edit[0]]
    args = edit[1:]
    return change(shelf, *args)
