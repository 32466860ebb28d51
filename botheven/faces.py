"""The faces of a flat drawing, and the drawing that has them as its places."""

from botheven.bounds import MAX_PLACES
from botheven.errors import Unfit
from botheven.steps import face_rows, step_from
from botheven.webs import ties_at


def faces(drawing):
    """Return the ascending tuple of all faces."""
    return face_rows(drawing)


def _numbers_of(found):
    """Return a dict: each step, with the number of its face."""
    return {step: number for number, row in enumerate(found) for step in row}


def dual(drawing):
    """Return the drawing whose places are the faces."""
    found = face_rows(drawing)
    if len(found) > MAX_PLACES:
        raise Unfit()
    numbers = _numbers_of(found)
    ties = tuple([tuple(sorted((numbers[(tie, 0)], numbers[(tie, 1)]))) for tie in range(len(drawing[0][1]))])
    if any([one == other for one, other in ties]):
        raise Unfit()
    return (len(found), ties), tuple([tuple([tie for tie, _ in row]) for row in found])


def dual_places(drawing):
    """Return for each place of the web the number of the dual's face that goes round it."""
    turned = dual(drawing)
    web = drawing[0]
    numbers, places = _numbers_of(face_rows(drawing)), _numbers_of(face_rows(turned))
    found = []
    for place in range(web[0]):
        # The dual's step along any tie here leads away from the face that has the step away from the place.
        away = step_from(web, ties_at(web, place)[0], place)
        found.append(places[step_from(turned[0], away[0], numbers[away])])
    return tuple(found)
