"""Holds the files of the package against rules of the language subset that a program can check."""
import ast
import builtins
import pathlib
import unittest

PACKAGE = pathlib.Path(__file__).resolve().parent.parent / "rowsinplace"
FILES = sorted(PACKAGE.rglob("*.py"))

BUILTINS = {
    "len", "range", "enumerate", "zip", "min", "max", "sum", "abs", "sorted", "reversed", "int", "str", "bool",
    "list", "tuple", "dict", "set", "isinstance", "ord", "repr", "any", "all", "divmod", "iter", "next", "map",
    "property", "staticmethod", "classmethod", "super", "NotImplemented", "Exception", "ValueError", "TypeError",
    "KeyError", "LookupError", "IndexError",
}
BARRED = {
    "register", "mro", "elements", "open", "input", "law", "version_info", "with_traceback", "add_note", "type",
    "typing", "enum", "Enum", "Flag", "Generic", "Protocol", "ABC", "namedtuple", "NamedTuple", "TypedDict",
}
STATEMENTS = (ast.AsyncFunctionDef, ast.AsyncFor, ast.AsyncWith, ast.Global)
TAKE_LISTS = {"any", "all", "min", "max", "sum", "sorted"}
DUNDERS = {
    "__init__", "__eq__", "__repr__", "__str__", "__len__", "__call__", "__iter__", "__bool__", "__contains__",
    "__getitem__", "__setitem__", "__add__", "__radd__", "__rshift__", "__abs__", "__iadd__", "__isub__",
}
PARAMETERS = {
    "__eq__": ["self", "other"], "__add__": ["self", "other"], "__radd__": ["self", "other"],
    "__rshift__": ["self", "other"], "__iadd__": ["self", "other"], "__isub__": ["self", "other"],
    "__contains__": ["self", "x"], "__getitem__": ["self", "at"], "__setitem__": ["self", "at", "worth"],
    "__len__": ["self"], "__bool__": ["self"], "__abs__": ["self"], "__iter__": ["self"],
}


# What a property or an operator may not change or call goes for these methods, too.
LOUD = {"__init__", "__call__", "__iter__", "__setitem__", "__iadd__", "__isub__"}
CHANGE = {"append", "extend", "insert", "pop", "remove", "clear", "update", "setdefault", "reverse", "sort"}

NO_ATTRIBUTES = {
    "items", "keys", "values", "pop", "update", "append", "clear", "extend", "insert", "remove", "reverse", "setdefault",
    "sort", "args", "encode", "decode", "hex", "fromhex", "format",
}

LAZY = {"range", "zip", "enumerate", "reversed", "items", "keys", "values"}
TAKE_LAZY = {"list", "tuple", "dict", "sorted", "sum", "any", "all", "enumerate", "zip", "min", "max", "len", "join"}


def trees():
    for path in FILES:
        yield path, ast.parse(path.read_text())


def names_in(tree):
    """Each name that a file uses in any way."""
    for node in ast.walk(tree):
        for field in ("id", "attr", "arg", "name"):
            name = getattr(node, field, None)
            if isinstance(name, str):
                yield name


def called(node):
    """The name by which a call calls, without what stands ahead of a dot."""
    return getattr(node.func, "id", getattr(node.func, "attr", None))


def iterated_at_once(tree):
    """The nodes that are iterated where they stand."""
    for node in ast.walk(tree):
        if isinstance(node, (ast.For, ast.comprehension)):
            yield node.iter
        if isinstance(node, ast.Call) and called(node) in TAKE_LAZY:
            yield from node.args if called(node) in ("zip", "len") else node.args[:1]
        if isinstance(node, ast.Compare):
            yield from node.comparators


def bound_in(function):
    """The names of the parameters and local variables of a function."""
    for node in ast.walk(function):
        if isinstance(node, ast.arg):
            yield node.arg
        if isinstance(node, ast.Name) and isinstance(node.ctx, ast.Store):
            yield node.id


def functions_of_the_package():
    """The functions and methods of the package by their names, each with whether it stands in a class."""
    found = {}
    for path, tree in trees():
        for node in tree.body:
            if isinstance(node, ast.FunctionDef):
                found.setdefault(node.name, []).append(node)
            if isinstance(node, ast.ClassDef):
                for inner in node.body:
                    if isinstance(inner, ast.FunctionDef):
                        found.setdefault(inner.name, []).append(inner)
                        if inner.name == "__init__":
                            found.setdefault(node.name, []).append(inner)
    return found


def stored_attributes():
    """The names of the attributes that the methods of the package assign."""
    return {node.attr for path, tree in trees() for node in ast.walk(tree)
            if isinstance(node, ast.Attribute) and isinstance(node.ctx, ast.Store)}


def is_quiet(function):
    """Whether a method is an operator or a property, or one that is held to their rules."""
    decorators = [node.id for node in function.decorator_list if isinstance(node, ast.Name)]
    is_operator = function.name.startswith("__") and function.name not in LOUD
    return "property" in decorators or is_operator


def run_by_operators():
    """The functions and methods that operators and properties are and run, with all that these call."""
    known = functions_of_the_package()
    waiting = [node for nodes in known.values() for node in nodes if is_quiet(node)]
    found = []
    while waiting:
        function = waiting.pop()
        if function not in found:
            found.append(function)
            calls = [called(node) for node in ast.walk(function) if isinstance(node, ast.Call)]
            waiting += [node for name in calls for node in known.get(name, [])]
    return found


def names_for_one_list(function):
    """Pairs of names of a function that may stand for one list, by a plain assignment."""
    for node in ast.walk(function):
        if isinstance(node, ast.Assign) and isinstance(node.value, ast.Name):
            for target in node.targets:
                if isinstance(target, ast.Name):
                    yield {target.id, node.value.id}


def changed_in(rows):
    """What is changed in some statements: by an item, by an attribute, or by a method."""
    for node in [node for row in rows for node in ast.walk(row)]:
        if isinstance(node, ast.Call) and isinstance(node.func, ast.Attribute) and node.func.attr in CHANGE:
            yield node.func.value
        if isinstance(node, ast.Subscript) and not isinstance(node.ctx, ast.Load):
            yield node.value
        if isinstance(node, ast.Attribute) and not isinstance(node.ctx, ast.Load):
            yield node


def walked_by(loop):
    """What a loop goes over, also by way of enumerate, items and the like, or of a choice."""
    waiting = [loop.iter]
    while waiting:
        node = waiting.pop()
        if isinstance(node, ast.Call) and called(node) in LAZY:
            waiting += [node.func.value] if isinstance(node.func, ast.Attribute) else node.args
        elif isinstance(node, ast.IfExp):
            waiting += [node.body, node.orelse]
        elif isinstance(node, ast.BoolOp):
            waiting += node.values
        else:
            yield node


def loops_that_change_parts(tree):
    """The loops over an attribute or an item of something that change one, be it the same or not.

    Two attributes or items may be one list, so these rows are refused also where they are not.
    """
    parts = (ast.Attribute, ast.Subscript)
    for loop in ast.walk(tree):
        if isinstance(loop, ast.For) and any(isinstance(node, parts) for node in walked_by(loop)):
            if any(isinstance(node, parts) for node in changed_in(loop.body)):
                yield loop


class Form(unittest.TestCase):
    def test_the_package_holds_only_its_files(self):
        found = [path for path in PACKAGE.rglob("*") if path.is_file() and "__pycache__" not in path.parts]
        self.assertEqual(sorted(found), FILES)
        for path in FILES:
            self.assertRegex(path.name, r"^[a-z_][a-z0-9_]*\.py$")

    def test_characters_and_lines(self):
        for path in FILES:
            text = path.read_bytes()
            self.assertTrue(all([byte == 10 or 32 <= byte <= 126 for byte in text]), path)
            lines = text.split(b"\n")
            self.assertLess(len(lines), 400, path)
            self.assertLessEqual(max([len(line) for line in lines]), 120, path)

    def test_functions_have_at_most_forty_lines(self):
        for path, tree in trees():
            for node in ast.walk(tree):
                if isinstance(node, ast.FunctionDef):
                    self.assertLessEqual(node.end_lineno - node.lineno + 1, 40, (path, node.name))

    def test_modules_hold_docstrings_imports_functions_and_classes(self):
        for path, tree in trees():
            self.assertIsNotNone(ast.get_docstring(tree), path)
            for node in tree.body[1:]:
                self.assertIsInstance(node, (ast.ImportFrom, ast.FunctionDef, ast.ClassDef, ast.Assign), path)
                if isinstance(node, ast.ImportFrom):
                    self.assertEqual((node.module.split(".")[0], node.level), ("rowsinplace", 0), path)

    def test_every_import_is_used(self):
        for path, tree in trees():
            imported = {name.name for node in tree.body if isinstance(node, ast.ImportFrom) for name in node.names}
            used = {node.id for node in ast.walk(tree) if isinstance(node, ast.Name)}
            self.assertEqual(imported - used, set(), path)

    def test_imports_name_the_file_that_defines_the_name(self):
        defined = {}
        for path, tree in trees():
            names = {node.name for node in tree.body if isinstance(node, (ast.FunctionDef, ast.ClassDef))}
            names |= {target.id for node in tree.body if isinstance(node, ast.Assign) for target in node.targets}
            defined[path.stem] = names
        for path, tree in trees():
            for node in tree.body:
                if isinstance(node, ast.ImportFrom):
                    found = {name.name for name in node.names}
                    self.assertEqual(found - defined[node.module.split(".")[1]], set(), path)
                    self.assertTrue(all(name.asname is None for name in node.names), path)

    def test_no_two_files_import_from_each_other(self):
        known = {path.stem: {node.module.split(".")[1] for node in tree.body if isinstance(node, ast.ImportFrom)}
                 for path, tree in trees()}
        for name in known:
            waiting, reached = list(known[name]), set()
            while waiting:
                other = waiting.pop()
                if other not in reached:
                    reached.add(other)
                    waiting += known[other]
            self.assertNotIn(name, reached)

    def test_statements_and_names(self):
        for path, tree in trees():
            for node in ast.walk(tree):
                self.assertNotIsInstance(node, STATEMENTS, path)
                if isinstance(node, ast.Name) and hasattr(builtins, node.id):
                    self.assertIn(node.id, BUILTINS, path)
            for name in names_in(tree):
                self.assertNotIn(name, BARRED, path)
                self.assertTrue(not name.startswith("__") or name in DUNDERS, (path, name))

    def test_no_variable_has_the_name_of_an_import_a_class_or_a_builtin(self):
        for path, tree in trees():
            taken = {name.name for node in tree.body if isinstance(node, ast.ImportFrom) for name in node.names}
            taken |= {node.name for node in tree.body if isinstance(node, ast.ClassDef)}
            functions = [node for node in ast.walk(tree) if isinstance(node, ast.FunctionDef)]
            for name in [name for function in functions for name in bound_in(function)]:
                self.assertNotIn(name, taken, path)
                self.assertFalse(hasattr(builtins, name), (path, name))

    def test_what_is_lazy_is_iterated_at_once(self):
        for path, tree in trees():
            whole = list(iterated_at_once(tree))
            for node in ast.walk(tree):
                if isinstance(node, ast.Call) and called(node) in LAZY:
                    self.assertIn(node, whole, (path, node.lineno))

    def test_loops_do_not_change_what_they_iterate_over(self):
        for path, tree in trees():
            for loop in ast.walk(tree):
                if isinstance(loop, ast.For):
                    over = ast.unparse(loop.iter)
                    for node in [node for part in loop.body for node in ast.walk(part)]:
                        if isinstance(node, ast.Subscript) and not isinstance(node.ctx, ast.Load):
                            self.assertNotEqual(ast.unparse(node.value), over.removesuffix(".items()"), path)

    def test_loops_do_not_change_what_they_iterate_over_by_another_name(self):
        for path, tree in trees():
            for function in [node for node in ast.walk(tree) if isinstance(node, ast.FunctionDef)]:
                pairs = list(names_for_one_list(function))
                for loop in [node for node in ast.walk(function) if isinstance(node, ast.For)]:
                    is_copy = isinstance(loop.iter, ast.Call) and called(loop.iter) in ("list", "tuple", "sorted")
                    parts = [] if is_copy else [loop.iter, *getattr(loop.iter, "args", [])]
                    walked = {node.id for node in parts if isinstance(node, ast.Name)}
                    for pair in pairs:
                        walked |= pair if walked & pair else set()
                    changed = {node.id for node in changed_in(loop.body) if isinstance(node, ast.Name)}
                    self.assertFalse(walked & changed, (path, loop.lineno))

    def test_loops_over_attributes_and_items_change_no_attribute_and_no_item(self):
        for path, tree in trees():
            self.assertEqual([loop.lineno for loop in loops_that_change_parts(tree)], [], path)

    def test_what_counts_as_a_loop_that_changes_an_attribute_or_an_item(self):
        refused = [
            "for k, x in self.rows.items(): self.kept[k] = x", "for x in self.rows: self.kept.append(x)",
            "for k, x in enumerate(self.rows): del self.kept[k]", "for x in rows[0]: rows[1].append(x)",
            "for x in (a.rows if c else xs): a.n = x", "for x in a.rows or xs: a.rows[x] = 1",
        ]
        allowed = [
            "for k, x in list(self.rows.items()): self.kept[k] = x", "for k, x in self.rows.items(): kept[k] = x",
            "for x in sorted(self.rows): self.kept.append(x)", "for x in xs: self.kept.append(x)",
            "for x in self.told(): self.kept.append(x)",
        ]
        for row in refused:
            self.assertEqual(len(list(loops_that_change_parts(ast.parse(row)))), 1, row)
        for row in allowed:
            self.assertEqual(len(list(loops_that_change_parts(ast.parse(row)))), 0, row)

    def test_operators_and_properties_call_no_name_that_is_an_attribute(self):
        stored = stored_attributes()
        self.assertIn("index", stored)
        running = run_by_operators()
        self.assertIn("_solved", [function.name for function in running])
        for function in running:
            for node in ast.walk(function):
                if isinstance(node, ast.Call) and isinstance(node.func, ast.Attribute):
                    self.assertNotIn(node.func.attr, stored, (function.name, node.lineno))

    def test_attributes_have_names_of_their_own(self):
        methods = {node.name for path, tree in trees() for kind in ast.walk(tree) if isinstance(kind, ast.ClassDef)
                   for node in kind.body if isinstance(node, ast.FunctionDef)}
        self.assertEqual(stored_attributes() & methods, set())
        self.assertEqual(stored_attributes() & NO_ATTRIBUTES, set())

    def test_caught_errors_have_names_of_their_own(self):
        for path, tree in trees():
            for function in [node for node in ast.walk(tree) if isinstance(node, ast.FunctionDef)]:
                names = [node.name for node in ast.walk(function) if isinstance(node, ast.ExceptHandler) and node.name]
                self.assertEqual(len(names), len(set(names)), (path, function.name))
                self.assertEqual(set(names) & set(bound_in(function)), set(), (path, function.name))

    def test_generators_are_iterated_at_once_and_have_names_of_their_own(self):
        functions = [(path, node) for path, tree in trees() for node in ast.walk(tree) if isinstance(node, ast.FunctionDef)]
        names = [node.name for path, node in functions
                 if any(isinstance(inner, (ast.Yield, ast.YieldFrom)) for inner in ast.walk(node))]
        for name in names:
            self.assertEqual([node.name for path, node in functions].count(name), 1)
        for path, tree in trees():
            whole = list(iterated_at_once(tree))
            for node in ast.walk(tree):
                if isinstance(node, ast.Call) and called(node) in names:
                    self.assertIn(node, whole, (path, node.lineno))

    def test_double_underscore_methods_have_their_parameters(self):
        for path, tree in trees():
            for node in ast.walk(tree):
                if isinstance(node, ast.FunctionDef) and node.name in PARAMETERS:
                    self.assertEqual([arg.arg for arg in node.args.args], PARAMETERS[node.name], path)

    def test_no_plus_equals_beside_its_operator(self):
        # A class defines +=, so no function of the package uses it (L5 Operators).
        for path, tree in trees():
            for node in ast.walk(tree):
                self.assertNotIsInstance(node, ast.AugAssign, path)

    def test_quantifiers_and_sorted_take_lists(self):
        # A class defines == and operators, so these take no generator expression (L5, L7).
        for path, tree in trees():
            for node in ast.walk(tree):
                if isinstance(node, ast.Call) and isinstance(node.func, ast.Name) and node.func.id in TAKE_LISTS:
                    for arg in node.args:
                        self.assertNotIsInstance(arg, ast.GeneratorExp, path)

    def test_stars_stand_before_names(self):
        for path, tree in trees():
            for node in ast.walk(tree):
                if isinstance(node, ast.Call):
                    starred = [arg.value for arg in node.args if isinstance(arg, ast.Starred)]
                    self.assertTrue(all([isinstance(value, ast.Name) for value in starred]), path)
