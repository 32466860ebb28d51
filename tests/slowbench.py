"""A bench that follows the document's words step by step, and edits to try on it."""

from botheven.deeds import deed_error, done
from botheven.errors import BadBatch, BadStanding, BadWeb, BothError, NoName, NothingToRedo, NothingToUndo, NoTie
from botheven.errors import NoVersion, Rejected, Taken, TooMany, TooManyEdits, Unfit
from botheven.sorts import pinched
from botheven.standings import standing_error
from botheven.webs import web_error

COUNTS = {"add": 3, "drop": 1, "tie": 4, "untie": 2, "pinch": 2, "stand": 2, "do": 2, "batch": 1}


def is_integer(value):
    return type(value) is int


def fits(web, standing):
    error = web_error(web)
    if error is not None:
        raise BadWeb(error)
    stands(web, standing)


def stands(web, standing):
    error = standing_error(web, standing)
    if error is not None:
        raise BadStanding(error)


def one_edit(table, word, args):
    """Return the dict of names that is there behind an edit that is no batch."""
    name = args[0]
    if word == "add":
        _, web, standing = args
        if type(name) is not str or not 1 <= len(name) <= 8 or any(not "a" <= sign <= "z" for sign in name):
            raise Unfit()
        fits(web, standing)
        if name in table:
            raise Taken(name)
        if len(table) == 6:
            raise TooMany(6)
        return {**table, name: (web, standing)}
    if type(name) is not str or name not in table:
        raise NoName(name)
    web, standing = table[name]
    if word == "drop":
        return {key: worth for key, worth in table.items() if key != name}
    if word == "tie":
        _, one, other, number = args
        web, standing = (web[0], web[1] + ((one, other),)), standing + (number,)
        fits(web, standing)
    elif word in ("untie", "pinch"):
        place = args[1]
        if not is_integer(place) or not 0 <= place < len(web[1]):
            raise NoTie(place)
        left = standing[:place] + standing[place + 1:]
        if word == "untie":
            web = (web[0], web[1][:place] + web[1][place + 1:])
            if web_error(web) is not None:
                raise BadWeb(web_error(web))
        else:
            web = pinched(web, place)
        standing = left
    elif word == "stand":
        stands(web, args[1])
        standing = args[1]
    else:
        deeds = args[1]
        if type(deeds) is not tuple or any(deed_error(web, deed) is not None for deed in deeds):
            raise Unfit()
        numbers = done(web, standing, deeds)
        stands(web, numbers)
        standing = numbers
    return {**table, name: (web, standing)}


def fine_part(value):
    if type(value) is not tuple or len(value) == 0 or type(value[0]) is not str or value[0] == "batch":
        return False
    return value[0] in COUNTS and len(value) == 1 + COUNTS[value[0]]


class SlowBench:
    def __init__(self):
        self.tables, self.edits, self.taken = [{}], [], []

    def shelf(self):
        return self.shelf_of(self.tables[-1])

    def shelf_of(self, table):
        return tuple((name,) + table[name] for name in sorted(table))

    def edit(self, word, *args):
        table = self.tables[-1]
        if word == "batch":
            if type(args[0]) is not tuple or len(args[0]) > 12 or not all(fine_part(part) for part in args[0]):
                raise BadBatch()
            for index, part in enumerate(args[0]):
                try:
                    table = one_edit(table, part[0], part[1:])
                except BothError:
                    raise Rejected(index) from None
        else:
            table = one_edit(table, word, args)
        if len(self.edits) == 40:
            raise TooManyEdits()
        self.tables.append(table)
        self.edits.append((word,) + args)
        self.taken = []
        return len(self.edits)

    def undo(self):
        if not self.edits:
            raise NothingToUndo()
        self.taken.append((self.edits.pop(), self.tables.pop()))
        return len(self.edits)

    def redo(self):
        if not self.taken:
            raise NothingToRedo()
        edit, table = self.taken.pop()
        self.edits.append(edit)
        self.tables.append(table)
        return len(self.edits)

    def at(self, version):
        if not is_integer(version) or not 0 <= version <= len(self.edits):
            raise NoVersion(version)
        return self.shelf_of(self.tables[version])

    def copy(self):
        other = SlowBench()
        other.tables, other.edits, other.taken = list(self.tables), list(self.edits), list(self.taken)
        return other


NAMES = ("a", "b", "four", "tri", "zzzzzzzz", "kite", "row", "none")
WEBS = (
    (1, ()), (2, ((0, 1),)), (2, ((0, 1),) * 4), (3, ((0, 1), (0, 2), (1, 2))), (2, ((0, 1), (0, 1))),
    (4, ((0, 1), (1, 2), (2, 3), (0, 3), (0, 2))), (3, ((0, 1), (1, 2))), (2, ((0, 1),) * 40),
)


def some_edit(rng, table, batches=True):
    """Return an edit that mostly goes with the names that are there."""
    word = rng.choice(("add", "add", "drop", "tie", "untie", "pinch", "stand", "do", "do", "batch"))
    if word == "batch" and not batches:
        word = "do"
    if word == "batch":
        return (word, tuple(some_edit(rng, table, False) for _ in range(rng.choice((0, 1, 1, 2, 2, 3, 13)))))
    name = rng.choice(NAMES) if rng.random() < 0.2 or not table else rng.choice(sorted(table))
    if word == "add":
        web = rng.choice(WEBS) if rng.random() < 0.95 else rng.choice(((2, ()), [1, ()], (2, ((1, 0),)), None))
        many = len(web[1]) if web else 0
        name = rng.choice(NAMES) if rng.random() < 0.95 else rng.choice(("", "A", "aaaaaaaaa", 7, None, ["a"], "a b"))
        return (word, name, web, some_numbers(rng, many))
    if word == "drop":
        return (word, name)
    web = table[name][0] if name in table else (2, ((0, 1),))
    places = range(-1, web[0] + 1)
    if word == "tie":
        one = rng.choice(places)
        return (word, name, one, rng.choice([one + 1, rng.choice(places)]), rng.choice((0, 5, -3, 10 ** 12, 10 ** 13)))
    if word in ("untie", "pinch"):
        return (word, name, rng.choice(list(range(len(web[1]) + 1)) + [True, None, -1]))
    if word == "stand":
        return (word, name, some_numbers(rng, len(web[1])))
    return (word, name, tuple(some_deed(rng, web) for _ in range(rng.randint(0, 2))))


def some_numbers(rng, many):
    far = rng.choice((2, 9, 10 ** 12))
    return tuple(rng.randint(-far, far) for _ in range(many + (rng.random() < 0.05)))


def some_deed(rng, web):
    times = rng.choice((1, -1, 2, -3, 10 ** 12)) if rng.random() < 0.9 else rng.choice((0, True, 10 ** 31))
    if rng.random() < 0.7:
        return ("star", rng.randrange(web[0]) if rng.random() < 0.95 else web[0], times)
    pairs = [(one, other) for other in range(len(web[1])) for one in range(other) if web[1][one] == web[1][other]]
    return ("round", rng.choice(pairs) if pairs and rng.random() < 0.9 else (0, 1, 2), times)
