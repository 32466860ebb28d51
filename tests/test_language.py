"""The package keeps to the plain subset of Python: the rules that a walk over its syntax can see."""

import ast
import builtins
import os
import re
import unittest

TOP = os.path.dirname(os.path.dirname(os.path.abspath(__file__)))
PACKAGE = os.path.join(TOP, "botheven")

STATEMENTS = (
    ast.Assign, ast.AugAssign, ast.If, ast.While, ast.For, ast.Return, ast.Break, ast.Continue, ast.Pass, ast.Raise,
    ast.Try, ast.Expr, ast.FunctionDef, ast.ClassDef, ast.ImportFrom,
)
NEVER = (ast.GeneratorExp, ast.Set, ast.SetComp, ast.Lambda, ast.Div, ast.NamedExpr, ast.Yield, ast.Await)
BUILTINS = (
    "len", "range", "enumerate", "zip", "min", "max", "sum", "abs", "sorted", "reversed", "int", "str", "bool", "list",
    "tuple", "dict", "isinstance", "any", "all", "divmod", "ValueError", "iter", "type",
)
METHODS = (
    "append", "bit_length", "count", "endswith", "extend", "find", "get", "index", "insert", "isdigit", "items", "join",
    "keys", "partition", "pop", "remove", "removeprefix", "replace", "setdefault", "split", "startswith", "strip",
    "values",
)
LIBRARY = {"math": ("gcd",)}
ITERATORS = ("range", "enumerate", "zip", "reversed")
ITERATING = ("list", "tuple", "dict", "sorted", "sum", "any", "all", "enumerate", "zip", "min", "max", "len")
WORDS = (
    "type", "typing", "enum", "Enum", "Flag", "Generic", "Protocol", "ABC", "namedtuple", "dataclass", "abstractmethod",
    "register", "mro", "elements", "open", "input", "law", "getattr", "setattr", "hasattr", "super", "global", "sys",
    "_lay", "_cold", "_record", "_outside", "_tuplegetter", "_written_out", "_member_names",
)


def files():
    return sorted(name for name in os.listdir(PACKAGE) if name != "__pycache__")


def methods_of(tree):
    """Return the functions that stand in the classes of a file."""
    kinds = [node for node in tree.body if isinstance(node, ast.ClassDef)]
    return [node for kind in kinds for node in kind.body if isinstance(node, ast.FunctionDef)]


def is_property(node):
    return [ast.unparse(one) for one in node.decorator_list] == ["property"]


def text_of(name):
    with open(os.path.join(PACKAGE, name), encoding="utf-8") as file:
        return file.read()


def bound_names(tree):
    """Return the names that functions, parameters and assignments of a file bind."""
    found = []
    for node in ast.walk(tree):
        if isinstance(node, (ast.FunctionDef, ast.ClassDef)):
            found.append(node.name)
        elif isinstance(node, ast.arg):
            found.append(node.arg)
        elif isinstance(node, ast.Name) and isinstance(node.ctx, ast.Store):
            found.append(node.id)
        elif isinstance(node, ast.ExceptHandler) and node.name:
            found.append(node.name)
    return found


def function_of(text):
    """Return the tree of a function with these rows."""
    return ast.parse("def some():\n" + "\n".join("    " + row for row in text.split("\n")))


def stands_for(node):
    """Return the words of all that an expression may be the very object of: names, attributes, items, choices."""
    if isinstance(node, ast.IfExp):
        return stands_for(node.body) | stands_for(node.orelse)
    if isinstance(node, ast.BoolOp):
        return {word for value in node.values for word in stands_for(value)}
    if isinstance(node, ast.Subscript) and isinstance(node.slice, ast.Slice):
        return set()
    return {ast.unparse(node)} if isinstance(node, (ast.Name, ast.Attribute, ast.Subscript)) else set()


def walked(node):
    """Return the words of all that a loop over this expression goes over, or may go over where it calls a function."""
    if isinstance(node, ast.Call) and isinstance(node.func, ast.Attribute):
        return stands_for(node.func.value) if node.func.attr in ("items", "keys", "values") else set()
    if isinstance(node, ast.Call):
        # These make something new; any other function may hand back what it takes.
        fresh = ast.unparse(node.func) in ("dict", "list", "range", "sorted", "tuple")
        return set() if fresh else {word for one in node.args for word in walked(one)}
    return stands_for(node)


def changed_by(node):
    """Return the words of all that this node itself changes."""
    changing = ("add", "append", "clear", "discard", "extend", "insert", "pop", "remove", "reverse", "setdefault",
                "sort", "update")
    if isinstance(node, ast.Call) and isinstance(node.func, ast.Attribute) and node.func.attr in changing:
        return stands_for(node.func.value)
    if isinstance(node, ast.Subscript) and not isinstance(node.ctx, ast.Load):
        return stands_for(node.value)
    return stands_for(node.target) if isinstance(node, ast.AugAssign) else set()


def given_names(function):
    """Return the sets of words that assignments of a function make names of one object, whatever their order."""
    lots = []
    for node in [node for node in ast.walk(function) if isinstance(node, ast.Assign)]:
        pairs = [(target, node.value) for target in node.targets]
        for target in node.targets:
            if isinstance(target, ast.Tuple) and isinstance(node.value, ast.Tuple):
                pairs += zip(target.elts, node.value.elts)
        words = [(stands_for(target), stands_for(value)) for target, value in pairs]
        if len(node.targets) > 1:
            words.append((set(), {word for target in node.targets for word in stands_for(target)}))
        lots += [one | other for one, other in words]
    return lots


def all_names(words, lots):
    """Return words with all others that the lots make names of the same objects."""
    found = set(words)
    while any(lot & found and not lot <= found for lot in lots):
        found.update(*[lot for lot in lots if lot & found])
    return found


def changed_while_walked(tree):
    """Return the rows where a loop or comprehension changes what it goes over, by whatever name."""
    found = []
    for function in [node for node in ast.walk(tree) if isinstance(node, ast.FunctionDef)]:
        lots = given_names(function)
        for loop in ast.walk(function):
            over = []
            if isinstance(loop, ast.For):
                over, inside = [loop.iter], loop.body
            elif isinstance(loop, (ast.ListComp, ast.DictComp, ast.SetComp, ast.GeneratorExp)):
                over, inside = [one.iter for one in loop.generators], [loop]
            names = all_names({word for one in over for word in walked(one)}, lots)
            if names:
                nodes = [node for part in inside for node in ast.walk(part)]
                found += [node.lineno for node in nodes if changed_by(node) & names]
    return found


class Language(unittest.TestCase):
    def each_file(self):
        """Return the triples of a file's name, text and tree."""
        return [(name, text_of(name), ast.parse(text_of(name))) for name in files()]

    def test_files(self):
        self.assertIn("__init__.py", files())
        for name, text, _ in self.each_file():
            self.assertRegex(name, r"^(__init__|[a-z][a-z0-9_]*)\.py$")
            self.assertFalse(name != "__init__.py" and hasattr(builtins, name[:-3]), name)
            self.assertTrue(text.endswith("\n"))
            self.assertLess(text.count("\n"), 400)
            self.assertRegex(text, r"^[ -~\n]*$")
            self.assertLessEqual(max(len(line) for line in text.split("\n")), 120)

    def test_functions_are_short(self):
        for _, _, tree in self.each_file():
            for node in ast.walk(tree):
                if isinstance(node, ast.FunctionDef):
                    self.assertLessEqual(node.end_lineno - node.lineno + 1, 40, node.name)
                    self.assertIsNotNone(ast.get_docstring(node) or node.name == "__init__" or None, node.name)
                    self.assertTrue(node.decorator_list == [] or is_property(node) and node in methods_of(tree),
                                    node.name)

    def test_imports(self):
        uses = {}
        for name, _, tree in self.each_file():
            uses[name] = []
            for node in ast.walk(tree):
                self.assertNotIsInstance(node, ast.Import)
                if isinstance(node, ast.ImportFrom):
                    self.assertIn(node, tree.body)
                    if node.module in LIBRARY:
                        self.assertTrue(all(one.name in LIBRARY[node.module] and not one.asname for one in node.names))
                        continue
                    self.assertRegex(node.module, r"^botheven\.[a-z]+$")
                    uses[name].append(node.module[9:] + ".py")
                    there = ast.parse(text_of(node.module[9:] + ".py"))
                    known = [part.name for part in there.body if isinstance(part, (ast.FunctionDef, ast.ClassDef))]
                    known += [part.targets[0].id for part in there.body if isinstance(part, ast.Assign)]
                    for one in node.names:
                        self.assertIsNone(one.asname)
                        self.assertIn(one.name, known)
                        self.assertGreater(len(re.findall(rf"\b{one.name}\b", text_of(name))), 1, one.name)
        self.assertEqual(uses["__init__.py"], [])
        while uses:
            free = [name for name in uses if not any(other in uses for other in uses[name])]
            self.assertTrue(free, "files import from each other")
            for name in free:
                del uses[name]

    def test_syntax(self):
        for _, text, tree in self.each_file():
            for node in ast.walk(tree):
                self.assertNotIsInstance(node, NEVER)
                if isinstance(node, ast.stmt):
                    self.assertIsInstance(node, STATEMENTS)
                if isinstance(node, ast.Starred):
                    self.assertIsInstance(node.value, ast.Name)
                if isinstance(node, ast.Constant):
                    self.assertNotIsInstance(node.value, (float, complex, bytes))
                    if isinstance(node.value, str):
                        self.assertNotIn("%", node.value)
                if isinstance(node, ast.BinOp) and isinstance(node.op, ast.Pow):
                    self.assertIsInstance(node.right, ast.Constant)
                if isinstance(node, (ast.arg, ast.FunctionDef)):
                    self.assertIsNone(getattr(node, "annotation", None) or getattr(node, "returns", None))
                if isinstance(node, ast.Compare) and isinstance(node.ops[0], (ast.Is, ast.IsNot)):
                    self.assertIsInstance(node.comparators[0], ast.Constant)
            self.assertNotRegex(text, r"\(type\)|Meta|metaclass=|_wall|_WallAttr")

    def test_names(self):
        for name, _, tree in self.each_file():
            imported = [one.name for node in tree.body if isinstance(node, ast.ImportFrom) for one in node.names]
            classes = [node.name for node in tree.body if isinstance(node, ast.ClassDef)]
            tops = [node.name for node in tree.body if isinstance(node, (ast.FunctionDef, ast.ClassDef))]
            tops += imported + [node.targets[0].id for node in tree.body if isinstance(node, ast.Assign)]
            self.assertEqual(len(tops), len(set(tops)))
            for bound in bound_names(tree):
                self.assertNotIn(bound, imported)
                self.assertFalse(not bound.startswith("__") and hasattr(builtins, bound), bound)
                self.assertNotIn(bound, WORDS)
                self.assertRegex(bound, r"^(_?[A-Za-z][A-Za-z0-9_]*|__[a-z]+__|_)$")
            for node in ast.walk(tree):
                if isinstance(node, ast.Name) and isinstance(node.ctx, ast.Load):
                    self.assertNotEqual(node.id, "_")
                if isinstance(node, ast.arg) or (isinstance(node, ast.Name) and isinstance(node.ctx, ast.Store)):
                    self.assertNotIn(getattr(node, "arg", None) or getattr(node, "id", None), classes)

    def test_calls(self):
        methods = list(METHODS) + [node.name for _, _, tree in self.each_file() for node in methods_of(tree)]
        for _, _, tree in self.each_file():
            own = [node.name for node in tree.body if isinstance(node, (ast.FunctionDef, ast.ClassDef))]
            own += [one.name for node in tree.body if isinstance(node, ast.ImportFrom) for one in node.names]
            # Functions may be passed on, and those out of a table have a name of their own ahead of the call.
            own += [node.arg for node in ast.walk(tree) if isinstance(node, ast.arg)]
            own += [node.targets[0].id for node in ast.walk(tree)
                    if isinstance(node, ast.Assign) and re.match(r"\w+ = _[A-Z]+\[", ast.unparse(node))]
            raised = [node.exc for node in ast.walk(tree) if isinstance(node, ast.Raise) and node.exc]
            self.assertTrue(all(isinstance(one, ast.Call) and isinstance(one.func, ast.Name) for one in raised))
            for node in ast.walk(tree):
                if not isinstance(node, ast.Call):
                    continue
                if isinstance(node.func, ast.Name):
                    self.assertIn(node.func.id, list(BUILTINS) + own)
                elif not (isinstance(node.func.value, ast.Name) and node.func.attr == "__init__"):
                    self.assertIn(node.func.attr, methods)

    def test_what_classes_have(self):
        allowed = ("__init__", "__len__", "__getitem__", "__iter__", "__eq__")
        names = [node.name for _, _, tree in self.each_file() for node in methods_of(tree)]
        attributes = {node.attr for _, _, tree in self.each_file() for node in ast.walk(tree)
                      if isinstance(node, ast.Attribute) and isinstance(node.ctx, ast.Store)}
        for _, text, tree in self.each_file():
            for node in methods_of(tree):
                if node.name.startswith("__"):
                    self.assertIn(node.name, allowed)
                if node.name.startswith("__") and node.name != "__init__" or is_property(node):
                    self.check_changes_nothing(node)
                if is_property(node):
                    self.assertEqual(names.count(node.name), 1)
                if not node.name.startswith("__"):
                    self.assertNotIn(node.name, attributes)
                if node.name == "__iter__":
                    self.assertRegex(ast.unparse(node.body[-1]), r"^return iter\(self\.[a-z_]+\)$")
                    self.assertEqual(len(node.body), 2)
                if node.name == "__eq__":
                    self.assertRegex(ast.unparse(node.body[-1]), r"^return isinstance\(other, [A-Z][a-z]+\) and ")
            for call in re.findall(r"\btype\(.*", text):
                self.assertEqual(call, "type(error).__name__")

    def check_changes_nothing(self, function):
        """Check that a function assigns no attribute and no item, and deletes nothing."""
        for node in ast.walk(function):
            if isinstance(node, (ast.Attribute, ast.Subscript)):
                self.assertIsInstance(node.ctx, ast.Load)
            self.assertNotIsInstance(node, (ast.AugAssign, ast.Delete))

    def test_sets_and_errors_beside_a_class_that_compares(self):
        for _, _, tree in self.each_file():
            for node in ast.walk(tree):
                if isinstance(node, ast.ExceptHandler):
                    self.assertNotIn(ast.unparse(node.type), ("ValueError", "IndexError", "LookupError", "Exception"))
                if isinstance(node, ast.Call):
                    self.assertNotIn(ast.unparse(node.func), ("set", "frozenset", "sort", "map", "next"))
                    self.assertFalse(ast.unparse(node.func).endswith(".sort"))

    def test_ranges_are_iterated_on_the_spot(self):
        for _, _, tree in self.each_file():
            fine = []
            for node in ast.walk(tree):
                if isinstance(node, (ast.For, ast.comprehension)):
                    fine.append(node.iter)
                elif isinstance(node, ast.Call) and isinstance(node.func, ast.Name) and node.func.id in ITERATING:
                    fine += node.args[:1]
                elif isinstance(node, ast.Call) and ast.unparse(node.func) == "reversed":
                    fine += [one for one in node.args if ast.unparse(one).startswith("range(")]
            for node in ast.walk(tree):
                if isinstance(node, ast.Call) and isinstance(node.func, ast.Name) and node.func.id in ITERATORS:
                    self.assertTrue(any(node is one for one in fine), ast.unparse(node))
                if isinstance(node, ast.Call) and isinstance(node.func, ast.Attribute):
                    if node.func.attr in ("items", "keys", "values"):
                        self.assertTrue(any(node is one for one in fine), ast.unparse(node))

    def test_what_a_loop_goes_over_is_not_changed_in_it(self):
        for name, _, tree in self.each_file():
            self.assertEqual(changed_while_walked(tree), [], name)

    def test_changes_under_a_second_name_are_seen(self):
        wrong = (
            "for x in xs: xs.append(x)",
            "for k, x in enumerate(xs): xs[k] = x",
            "for k, x in d.items(): del d[k]",
            "for x in reversed(xs): xs += [x]",
            "for x, y in zip(xs, ys): ys.pop()",
            "for x in box.rows: box.rows.append(x)",
            "for x in rows[0]: rows[0].append(x)",
            "for x in near(xs): xs.append(x)",
            "for x in xs if xs else ys: ys.append(x)",
            "for x in xs or ys: xs.append(x)",
            "ys = xs\nfor x in xs: ys.append(x)",
            "while xs:\n  ys = []\n  for x in xs: ys.append(x)\n  xs = ys",
            "while xs:\n  ys = []\n  for x in xs:\n    for y in x: ys.append(y)\n  xs = ys",
            "ys = zs\nxs = zs\nfor x in xs: ys.append(x)",
            "xs, ys = ys, []\nfor x in xs: ys.append(x)",
            "ys = xs if n else []\nfor x in xs: ys.append(x)",
            "ys = n or xs\nfor x in xs: ys.append(x)",
            "ys = box.rows\nfor x in box.rows: ys.append(x)",
            "box.rows = xs\nfor x in xs: box.rows.append(x)",
            "ys = rows[0]\nfor x in rows[0]: ys.append(x)",
            "xs = ys = []\nfor x in xs: ys.append(x)",
            "return [xs.pop() for x in xs]",
            "ys = xs\nreturn {x: ys.pop() for x in xs}",
        )
        for text in wrong:
            self.assertNotEqual(changed_while_walked(function_of(text)), [], text)
        fine = (
            "for x in list(xs): xs.append(x)",
            "ys = list(xs)\nfor x in xs: ys.append(x)",
            "ys = xs[:]\nfor x in xs: ys.append(x)",
            "ys = [x for x in xs]\nfor x in xs: ys.append(x)",
            "for x in xs: ys.append(x)",
            "for x in sorted(d): d[x] = 1",
            "for k in range(len(xs)): xs[k] = k",
            "while xs:\n  x = xs.pop(0)\n  for y in near(x): xs.append(y)",
            "for x in xs: pass\nxs.append(1)",
            "for row in rows: row.append(1)",
        )
        for text in fine:
            self.assertEqual(changed_while_walked(function_of(text)), [], text)


if __name__ == "__main__":
    unittest.main()
