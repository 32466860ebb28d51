"""Shells: benches that are led by lines of text."""

from botheven.benches import Bench
from botheven.classes import class_count
from botheven.errors import BothError
from botheven.figures import integer_of
from botheven.trees import tree_count
from botheven.webtexts import read_web, web_text

_MOST = 999999

# What stands behind the word of a line, with blanks between; a text comes last, as it may have blanks.
_FORMS = {
    "add": ("name", "integers", "text"), "drop": ("name",), "tie": ("name", "integer", "integer", "integer"),
    "untie": ("name", "integer"), "pinch": ("name", "integer"), "stand": ("name", "integers"),
    "star": ("name", "integer", "integer"), "round": ("name", "integers", "integer"), "undo": (), "redo": (),
    "names": (), "show": ("name",), "find": ("integers", "text"), "base": ("name",), "made": (), "trees": ("name",),
    "classes": ("name",),
}


def _parts(line):
    """Return the tuple of a line's word and of the values behind it, None if the line has not the form of any."""
    word = line.partition(" ")[0]
    if word not in _FORMS:
        return None
    form = _FORMS[word]
    pieces = line.split(" ", len(form))
    if pieces[0] != word or len(pieces) != 1 + len(form):
        return None
    values = [_value(kind, piece) for kind, piece in zip(form, pieces[1:])]
    return None if None in values else tuple([word] + values)


def _value(kind, piece):
    """Return what a piece of a line tells, None if it is not of this kind."""
    if kind == "integer":
        return integer_of(piece, _MOST)
    if kind == "integers":
        return _integers(piece)
    # A name has a sign or more, and only at the end of a line a blank could be left in it.
    return None if kind == "name" and (piece == "" or " " in piece) else piece


def _integers(piece):
    """Return the tuple of the integers that a piece tells, None if it tells none such."""
    if piece == "none":
        return ()
    numbers = [integer_of(part, _MOST) for part in piece.split(",")]
    return None if None in numbers else tuple(numbers)


def _list(texts, between):
    """Return the texts with a sign between each two, "none" for none of them."""
    return between.join(texts) if texts else "none"


def _list_integers(numbers):
    """Return the text of some integers."""
    return _list([str(number) for number in numbers], ",")


def _edit(word, name, *rest):
    """Return the edit that a line tells."""
    if word == "add":
        numbers, text = rest
        return ("add", name, read_web(text), numbers)
    if word in ("star", "round"):
        target, times = rest
        return ("do", name, ((word, target, times),))
    return (word, name) + rest


def _undo(bench):
    """Answer undo."""
    return f"version {bench.undo()}"


def _redo(bench):
    """Answer redo."""
    return f"version {bench.redo()}"


def _names(bench):
    """Answer names."""
    return _list(list(bench), " ")


def _show(bench, name):
    """Answer show."""
    web, standing = bench[name]
    return _list_integers(standing) + " " + web_text(web)


def _find(bench, numbers, text):
    """Answer find."""
    return _list(bench.search(read_web(text), numbers), " ")


def _base(bench, name):
    """Answer base."""
    return _list([_list_integers(lot) for lot in bench.base(name)], ";")


def _made(bench):
    """Answer made."""
    return str(bench.made)


def _trees(bench, name):
    """Answer trees."""
    return str(tree_count(bench[name][0]))


def _classes(bench, name):
    """Answer classes."""
    return str(class_count(bench[name][0]))


# All other words are those of edits.
_ANSWERS = {
    "undo": _undo, "redo": _redo, "names": _names, "show": _show, "find": _find, "base": _base, "made": _made,
    "trees": _trees, "classes": _classes,
}


def _answer(bench, parts):
    """Return the answer to a line's word and the values behind it."""
    if parts[0] not in _ANSWERS:
        version = bench.edit(_edit(*parts))
        return f"version {version}"
    answer = _ANSWERS[parts[0]]
    values = parts[1:]
    return answer(bench, *values)


class Shell:
    """A bench that answers lines of text."""

    def __init__(self):
        self._bench = Bench()

    def say(self, line):
        """Return the answer to a line."""
        parts = _parts(line) if isinstance(line, str) else None
        if parts is None:
            return "what"
        try:
            return _answer(self._bench, parts)
        except BothError as error:
            return "error " + type(error).__name__
