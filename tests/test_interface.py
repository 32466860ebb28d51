"""The bounds, the errors, and the names of the interface: where they stand and what they take."""

import copy
import importlib
import inspect
import unittest

from botheven import bounds, errors

BOUNDS = {
    "MAX_PLACES": 12, "MAX_TIES": 40, "MAX_ROUNDS": 500, "MAX_TREES": 500, "MAX_LOTS": 256,
    "MAX_NUMBER": 1000000000000, "MAX_TIMES": 1000000000000000000000000000000, "MAX_REST": 1000, "MAX_LAMPS": 10,
    "MAX_NAMES": 6, "BATCH": 12, "MAX_EDITS": 40, "MAX_GAP": 10, "MAX_TOP": 9, "MAX_BOX": 2000,
    "MAX_POLES": 1000000000000000000000000000000, "MAX_NEST": 20, "MAX_NAMED": 8, "MAX_MOVES": 1000,
}

ERRORS = {
    "Unfit": None, "BadText": None, "BadWeb": "error", "BadStanding": "error", "Thin": "lot", "Apart": "lot",
    "Sloped": "slope", "Held": "held", "TooMany": "limit", "NoName": "given", "NoTie": "given", "Taken": "given",
    "NoWay": "reached", "BadLog": "place", "BadBatch": None, "Rejected": "index", "TooManyEdits": None,
    "NothingToUndo": None, "NothingToRedo": None, "NoVersion": "given",
}

FUNCTIONS = {
    "webs": {"web_error": "value", "ties_at": "web place", "matrix_of": "web"},
    "webtexts": {"web_text": "web", "read_web": "value"},
    "lots": {
        "lot_error": "web value", "sum_of": "lots", "cut_of": "web places", "is_even": "web lot", "is_cut": "web lot",
        "places_of_cut": "web lot",
    },
    "rounds": {"is_round": "web lot", "rounds": "web", "parted_even": "web lot", "tree_rounds": "web"},
    "standings": {"standing_error": "web value", "difference": "one other"},
    "deeds": {
        "deed_error": "web value", "done": "web standing deeds", "undone": "deeds", "told_together": "web deeds",
        "never_below": "web standing deeds", "lifted": "web standing deeds",
    },
    "ways": {"ways": "web one other", "fewest_cut": "web one other"},
    "thick": {"thin_cut": "web", "twice": "web tie"},
    "joining": {
        "joined_by": "web standing other", "is_parting": "web standing other value",
        "joined_above": "web standing other",
    },
    "classes": {
        "class_count": "web", "parities": "web standing", "standard": "web standing", "class_at": "web number",
        "class_number": "web standing",
    },
    "fellows": {"fellow_lots": "web", "bridges": "web", "by_rounds": "web one"},
    "slopes": {"slope_error": "web value", "slope_base": "web"},
    "marks": {
        "marks_of": "web one", "class_many": "web", "led_by": "web one other", "is_parted": "web one other value",
    },
    "evens": {
        "both_error": "web value", "lot_base": "web", "lot_many": "web", "all_lots": "web", "lot_at": "web number",
        "lot_number": "web lot",
    },
    "colours": {"lot_of": "web colours", "colours_of": "web lot"},
    "splits": {"split": "web lot"},
    "sorts": {
        "sort_of": "web tie", "sort_paper": "web tie", "sort_paper_holds": "web tie value", "left_out": "web tie",
        "pinched": "web tie",
    },
    "drawings": {"drawing_error": "value"},
    "faces": {"faces": "drawing", "dual": "drawing", "dual_places": "drawing"},
    "turnwalks": {"turn_walks": "drawing", "lot_of_walks": "drawing some", "walks_of_lot": "drawing lot"},
    "rests": {
        "classes_modulo": "web k", "joined_modulo": "web k standing other",
        "parts_modulo": "web k standing other value",
    },
    "lamps": {"switched": "web lot deeds", "fewest_deeds": "web lot", "hardest": "web"},
    "families": {
        "ring": "n", "wheel": "n", "grid": "m n", "ladder": "n", "full": "n", "full_two": "m n",
        "lot_many_of": "word sizes",
    },
    "together": {
        "at_place": "web place other further", "by_tie": "web place other further", "many_fold": "web m",
        "cut_small": "web m",
    },
    "gaps": {"fewest_left": "web lot", "widest": "web", "mended": "web standing other"},
    "sizes": {"lots_by_size": "web", "least_lot": "web"},
    "surfaces": {"all_faces": "table", "all_walks": "table", "holes": "table"},
    "sides": {
        "face_lot": "table some", "walk_lot": "table some", "is_side": "table value", "side_lots": "table",
        "side_many": "table", "side_colours": "table lot",
    },
    "boxes": {
        "box_parts": "web top", "frozen": "web top", "box_part": "web top standing",
        "box_way": "web top standing other", "least_top": "web standing other",
    },
    "poles": {"pole_type": "web one other", "in_row": "first second", "side_by_side": "first second"},
    "poleterms": {
        "term_error": "value", "term_type": "term", "term_size": "term", "term_lots": "term", "term_web": "term",
        "term_text": "term", "read_term": "value",
    },
    "namings": {
        "naming_error": "many value", "carried": "web names", "alike": "web other", "symmetries": "web",
        "tie_moves": "web names", "moved": "web names standing",
    },
    "orbits": {"lot_orbits": "web", "class_orbits": "web"},
    "logs": {"log_text": "edits", "read_log": "value", "bench_behind": "edits"},
    "trees": {"tree_count": "web", "trees": "web", "is_tree": "web value"},
    "factors": {
        "heap_factors": "web", "evens_among": "web", "odd_paper": "web", "odd_paper_holds": "web value",
    },
}

CLASSES = {
    "benches": {
        "Bench": {
            "add": "name web standing", "drop": "name", "tie": "name one other number", "untie": "name place",
            "pinch": "name place", "stand": "name standing", "do": "name deeds", "batch": "edits", "base": "name",
            "undo": "", "redo": "", "at": "version", "copy": "", "attempt": "work", "search": "web standing",
        },
    },
    "shells": {"Shell": {"say": "line"}},
}

PROPERTIES = ("shelf", "version", "log", "made")


class Interface(unittest.TestCase):
    def test_bounds(self):
        for name, worth in BOUNDS.items():
            self.assertIs(type(getattr(bounds, name)), int, name)
            self.assertEqual(getattr(bounds, name), worth, name)

    def test_errors_stand_directly_under_one(self):
        self.assertEqual(errors.BothError.__bases__, (ValueError,))
        for name in ERRORS:
            self.assertEqual(getattr(errors, name).__bases__, (errors.BothError,), name)
            self.assertEqual(getattr(errors, name).__module__, "botheven.errors")

    def test_errors_keep_what_they_were_passed(self):
        for name, word in ERRORS.items():
            kind = getattr(errors, name)
            if word is None:
                self.assertEqual(vars(kind()), {})
                continue
            for worth in (None, True, 0, "words", (0, (1,)), [1, [2]], {"a": {}}, errors.Unfit()):
                for error in (kind(worth), kind(**{word: worth})):
                    self.assertIs(getattr(error, word), worth)
                    self.assertEqual(list(vars(error)), [word])
                    self.assertIsInstance(error, errors.BothError)
                    self.assertIsInstance(error, ValueError)
                    self.assertIs(getattr(copy.copy(error), word), worth)
            self.assertRaises(TypeError, kind)

    def test_errors_may_be_shown(self):
        for name, word in ERRORS.items():
            kind = getattr(errors, name)
            error = kind() if word is None else kind([])
            self.assertIsInstance(str(error), str)
            self.assertIsInstance(repr(error), str)

    def test_functions_stand_where_they_are_listed(self):
        for module, rows in FUNCTIONS.items():
            found = importlib.import_module("botheven." + module)
            for name, words in rows.items():
                function = getattr(found, name)
                self.assertEqual(function.__module__, "botheven." + module)
                self.assertEqual(function.__name__, name)
                told = inspect.signature(function).parameters
                self.assertEqual(list(told), words.split(), name)
                self.check_plain(told)

    def check_plain(self, told):
        for parameter in told.values():
            self.assertEqual(parameter.kind, inspect.Parameter.POSITIONAL_OR_KEYWORD)
            self.assertIs(parameter.default, inspect.Parameter.empty)

    def test_classes_define_what_is_listed_for_them(self):
        for module, rows in CLASSES.items():
            found = importlib.import_module("botheven." + module)
            for name, methods in rows.items():
                kind = getattr(found, name)
                self.assertEqual((kind.__module__, kind.__bases__), ("botheven." + module, (object,)))
                kind()
                for method, words in methods.items():
                    told = inspect.signature(vars(kind)[method]).parameters
                    self.assertEqual(list(told), ["self"] + words.split(), method)
                    self.check_plain(told)

    def test_a_bench_has_its_properties_from_the_beginning(self):
        bench = importlib.import_module("botheven.benches").Bench
        for name in PROPERTIES:
            self.assertIsInstance(vars(bench)[name], property)
            self.assertIsNone(vars(bench)[name].fset)
            getattr(bench(), name)
        for name in ("__len__", "__getitem__", "__iter__", "__eq__"):
            self.assertIn(name, vars(bench))


if __name__ == "__main__":
    unittest.main()
