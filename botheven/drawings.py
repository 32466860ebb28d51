"""Drawings: webs with the order in which ties lie round each place."""

from botheven.kinds import row_of, whole
from botheven.steps import face_rows
from botheven.webs import ties_at, web_error


def drawing_error(value):
    """Return None for a flat drawing, else what is wrong with value first."""
    if not row_of(value, 2):
        return "form"
    web, turns = value
    error = web_error(web)
    if error is not None:
        return ("web", error)
    if web[1] == () or not row_of(turns, web[0]):
        return "form"
    for place in range(web[0]):
        if not _goes_round(web, place, turns[place]):
            return ("turns", place)
    return None if len(face_rows(value)) == len(web[1]) - web[0] + 2 else "flat"


def _goes_round(web, place, value):
    """Tell whether value is a tuple of all ties at the place, each once."""
    if not isinstance(value, tuple) or not all([whole(item) for item in value]):
        return False
    return tuple(sorted(value)) == ties_at(web, place)
