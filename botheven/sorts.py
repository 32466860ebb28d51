"""Three sorts of ties, and webs with a tie left out or pinched."""

from botheven.errors import Held, Unfit
from botheven.evens import both_error
from botheven.kinds import row_of
from botheven.lots import is_cut, is_even, lot_error
from botheven.splits import split
from botheven.webs import renamed, web_error


def sort_paper(web, tie):
    """Return a pair of the sort of a tie and of a lot that shows it."""
    try:
        cut, even = split(web, (tie,))
    except Held as error:
        return ("both", error.held)
    # Their sum is the tie alone, so just one of both has it, and is the other one without it.
    return ("cut", cut) if tie in cut else ("round", even)


def sort_of(web, tie):
    """Return the sort of a tie."""
    return sort_paper(web, tie)[0]


def sort_paper_holds(web, tie, value):
    """Tell whether value is a pair of a sort and of a lot that shows that the tie is of it."""
    if not row_of(value, 2):
        return False
    word, lot = value
    if lot_error(web, lot) is not None or tie not in lot:
        return False
    others = tuple([other for other in lot if other != tie])
    if word == "both":
        return both_error(web, lot) is None
    if word == "cut":
        return is_cut(web, lot) and is_even(web, others)
    return word == "round" and is_even(web, lot) and is_cut(web, others)


def left_out(web, tie):
    """Return the web without the tie."""
    left = (web[0], web[1][:tie] + web[1][tie + 1:])
    if web_error(left) is not None:
        raise Unfit()
    return left


def pinched(web, tie):
    """Return the web without the tie, both ends of which are made one place."""
    ties = web[1][:tie] + web[1][tie + 1:]
    if web[1][tie] in ties:
        raise Unfit()
    names = [_name(place, web[1][tie]) for place in range(web[0])]
    return web[0] - 1, renamed(ties, names)


def _name(place, ends):
    """Return what a place is called when the greater one of the ends is made one with the lesser one."""
    lesser, greater = ends
    if place == greater:
        return lesser
    return place - 1 if place > greater else place
