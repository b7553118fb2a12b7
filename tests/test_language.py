"""The rules of the language subset that can be read off the files of the package."""

import ast
import builtins
import pathlib
import unittest

FOLDER = pathlib.Path(__file__).resolve().parent.parent / "lastgiver"
FILES = sorted(FOLDER.glob("*.py"))
TREES = {path.stem: ast.parse(path.read_text()) for path in FILES}

BUILTINS = {
    "len", "range", "enumerate", "zip", "min", "max", "sum", "abs", "sorted", "reversed", "int", "str", "bool",
    "list", "tuple", "dict", "isinstance", "any", "all", "iter", "type", "ValueError", "staticmethod",
    "classmethod", "property",
}
LIBRARY = {
    "math": {"gcd", "lcm", "isqrt", "comb", "perm", "factorial"},
    "heapq": {"heappush", "heappop", "heapify", "heapreplace", "heappushpop"},
}
METHODS = {
    "append", "clear", "copy", "count", "endswith", "extend", "find", "get", "index", "insert", "isalnum", "isalpha",
    "isdigit", "islower", "isspace", "isupper", "items", "join", "keys", "ljust", "lower", "lstrip", "partition",
    "pop", "remove", "replace", "reverse", "rfind", "rjust", "rpartition", "rsplit", "rstrip", "setdefault", "split",
    "splitlines", "startswith", "strip", "update", "upper", "values", "zfill", "bit_length",
}
OPERATORS = {
    "__add__", "__sub__", "__mul__", "__and__", "__or__", "__neg__", "__abs__", "__bool__", "__contains__",
    "__getitem__",
}
DOUBLE = OPERATORS | {"__init__", "__eq__", "__repr__", "__str__", "__len__", "__iter__", "__call__"}
BARRED = {
    "register", "mro", "elements", "open", "input", "law", "version_info", "with_traceback", "add_note", "typing",
    "enum", "Enum", "Flag", "Generic", "Protocol", "ABC", "namedtuple", "attrgetter", "compile", "gc", "os", "sys",
    "help", "vars", "dir", "locals", "globals", "_cold", "_outside", "_record", "_written_out", "_member_names",
}
NO_ATTRIBUTE = {
    "items", "keys", "values", "pop", "update", "append", "clear", "extend", "insert", "remove", "reverse",
    "setdefault", "sort", "args", "encode", "decode", "hex", "fromhex", "format", "as_integer_ratio", "bit_count",
    "conjugate", "from_bytes", "is_integer", "to_bytes",
}
VIEWS = {"range", "zip", "enumerate", "reversed"}
TAKERS = {"list", "tuple", "dict", "sorted", "sum", "any", "all", "enumerate", "zip", "min", "max", "len"}


def nodes(kind):
    """Pairs of a file's name and a node of this kind, of all files."""
    return [(name, node) for name, tree in TREES.items() for node in ast.walk(tree) if isinstance(node, kind)]


def functions():
    """Pairs of a file's name and a function or method."""
    return nodes(ast.FunctionDef)


def parameters(function):
    """All parameters of a function."""
    told = function.args
    stars = [star for star in (told.vararg, told.kwarg) if star is not None]
    return [arg.arg for arg in told.posonlyargs + told.args + told.kwonlyargs + stars]


def bound_in(function):
    """All names that a function binds."""
    stored = [node.id for node in ast.walk(function) if isinstance(node, ast.Name) and isinstance(node.ctx, ast.Store)]
    return set(parameters(function)) | set(stored)


def methods():
    """Pairs of a class and a method of it."""
    return [(node, row) for _, node in nodes(ast.ClassDef) for row in node.body if isinstance(row, ast.FunctionDef)]


CHANGERS = {
    "append", "clear", "extend", "insert", "pop", "remove", "reverse", "setdefault", "update", "sort", "add", "discard",
}


def root_of(node):
    """What an item, or the answer of setdefault, is taken from."""
    while True:
        if isinstance(node, ast.Subscript):
            node = node.value
        elif isinstance(node, ast.Call) and getattr(node.func, "attr", "") == "setdefault":
            node = node.func.value
        else:
            return node


def changed_in(rows):
    """What is changed in these rows: whose items are assigned, or which list or dict a call changes."""
    for node in (node for row in rows for node in ast.walk(row)):
        if isinstance(node, ast.Subscript) and not isinstance(node.ctx, ast.Load):
            yield root_of(node.value)
        elif isinstance(node, ast.Call) and getattr(node.func, "attr", "") in CHANGERS:
            yield root_of(node.func.value)
        elif isinstance(node, ast.Call) and getattr(node.func, "id", "") in LIBRARY["heapq"]:
            yield root_of(node.args[0])


def is_made_here(node):
    """Whether an expression plainly makes a new list or dict.

    Classes of the package have `*` and `+`: a product is not surely a list, and a sum only if both its sides are.
    """
    if isinstance(node, ast.BinOp):
        return isinstance(node.op, ast.Add) and is_made_here(node.left) and is_made_here(node.right)
    if isinstance(node, ast.Subscript):
        return isinstance(node.slice, ast.Slice)
    if isinstance(node, ast.Call):
        return getattr(node.func, "id", "") in ("list", "dict", "sorted", "set")
    return isinstance(node, (ast.List, ast.Dict, ast.ListComp, ast.DictComp))


def made_in(function):
    """The names that a function assigns nothing but lists and dicts that it plainly makes."""
    made, others = set(), set(parameters(function))
    for node in ast.walk(function):
        if isinstance(node, ast.Assign) and all(isinstance(target, ast.Name) for target in node.targets):
            (made if is_made_here(node.value) else others).update(target.id for target in node.targets)
        elif isinstance(node, (ast.Assign, ast.For)):
            targets = node.targets if isinstance(node, ast.Assign) else [node.target]
            others |= {one.id for target in targets for one in ast.walk(target)
                       if isinstance(one, ast.Name) and isinstance(one.ctx, ast.Store)}
    return made - others


def is_property(function):
    """Whether a function is read as a property."""
    return any(getattr(told, "id", "") == "property" for told in function.decorator_list)


def defined_in(name):
    """A dict: by its name, each function and class that a file defines."""
    return {row.name: row for row in TREES[name].body if isinstance(row, (ast.FunctionDef, ast.ClassDef))}


def seen_in(name):
    """A dict: by its name, the file and the node of each function and class that a file defines or imports."""
    seen = {told: (name, row) for told, row in defined_in(name).items()}
    for node in ast.walk(TREES[name]):
        if isinstance(node, ast.ImportFrom) and node.module not in LIBRARY:
            file = node.module.split(".")[1]
            seen.update({alias.name: (file, defined_in(file).get(alias.name)) for alias in node.names})
    return seen


def run_by(function, seen, by_name):
    """Pairs of a file and a function: all that a function names, and all methods of a name that it calls."""
    inner = list(ast.walk(function))
    named = {node.id for node in inner if isinstance(node, ast.Name)} - bound_in(function)
    for file, told in (seen[name] for name in named if name in seen):
        if isinstance(told, ast.FunctionDef):
            yield file, told
        elif isinstance(told, ast.ClassDef):
            yield from ((file, row) for row in told.body if getattr(row, "name", "") == "__init__")
    called = {getattr(node.func, "attr", "") for node in inner if isinstance(node, ast.Call)}
    for name in called - {"__init__"}:
        yield from by_name.get(name, [])


def roads():
    """Triples: a file, a function of it that operators, properties, texts, lengths or `==` run, and a way that leads there."""
    begun = OPERATORS | {"__eq__", "__len__", "__repr__", "__str__"}
    seen = {name: seen_in(name) for name in TREES}
    by_name, layer = {}, []
    for name, owner in nodes(ast.ClassDef):
        for row in (row for row in owner.body if isinstance(row, ast.FunctionDef)):
            by_name.setdefault(row.name, []).append((name, row))
            if row.name in begun or is_property(row):
                layer.append((name, row, (owner.name, row.name)))
    met, found = set(), []
    while layer:
        name, row, way = layer.pop()
        if row not in met:
            met.add(row)
            found.append((name, row, way))
            layer.extend((file, further, (*way, further.name)) for file, further in run_by(row, seen[name], by_name))
    return found


def is_plain_text(node):
    """Whether what a text of a value returns has one of the forms that are let."""
    if isinstance(node, ast.Call):
        joined = isinstance(node.func, ast.Attribute) and node.func.attr == "join" and is_literal(node.func.value, str)
        return joined or getattr(node.func, "id", "") in ("str", "repr")
    return isinstance(node, ast.JoinedStr) or is_literal(node, str)


def is_plain_length(node):
    """Whether what a length of a value returns has one of the forms that are let."""
    return (isinstance(node, ast.Call) and getattr(node.func, "id", "") == "len") or is_literal(node, int)


def is_literal(node, kind):
    """Whether a node is a literal of this kind."""
    return isinstance(node, ast.Constant) and type(node.value) is kind


def is_plain(node, deep=0):
    """Whether a value at module level is a constant, or a tuple or dict of these and of functions; no dict stands in one."""
    if isinstance(node, ast.Dict):
        return deep == 0 and all(isinstance(key, ast.Constant) for key in node.keys) and all(is_plain(one, 1) for one in node.values)
    if isinstance(node, ast.Tuple):
        return all(is_plain(one, deep + 1) for one in node.elts)
    return isinstance(node, ast.Constant) or (deep > 0 and isinstance(node, ast.Name))


def is_generator(function):
    """Whether a function yields."""
    return any(isinstance(node, (ast.Yield, ast.YieldFrom)) for node in ast.walk(function))


class LanguageTest(unittest.TestCase):
    def none(self, found):
        self.assertEqual([], list(found))

    def test_files_lines_and_signs(self):
        for path in FILES:
            lines = path.read_text().split("\n")
            self.assertLessEqual(len(lines), 399, path)
            self.none(row for row in lines if len(row) > 120 or not all(" " <= sign <= "~" for sign in row))
        self.none(path for path in FOLDER.iterdir() if path.suffix != ".py" and path.name != "__pycache__")

    def test_functions_are_short(self):
        self.none((name, node.name) for name, node in functions() if node.end_lineno - node.lineno + 1 > 40)

    def test_module_level(self):
        plain = (ast.ImportFrom, ast.FunctionDef, ast.ClassDef)
        for name, tree in TREES.items():
            rows = tree.body[1:]
            self.assertIsNotNone(ast.get_docstring(tree), name)
            others = [row for row in rows if not isinstance(row, plain)]
            self.none((name, row.lineno) for row in others if not isinstance(row, ast.Assign))
            self.none((name, row.lineno) for row in others if not is_plain(row.value))
            told = [row.name for row in rows if isinstance(row, (ast.FunctionDef, ast.ClassDef))]
            told += [alias.name for row in rows if isinstance(row, ast.ImportFrom) for alias in row.names]
            told += [target.id for row in others for target in row.targets]
            self.assertEqual(len(told), len(set(told)), name)

    def test_imports(self):
        self.none(nodes(ast.Import))
        for name, node in nodes(ast.ImportFrom):
            self.none(alias.name for alias in node.names if alias.asname is not None)
            if node.module in LIBRARY:
                self.none(alias.name for alias in node.names if alias.name not in LIBRARY[node.module])
            else:
                package, file = node.module.split(".")
                self.assertEqual("lastgiver", package)
                defined = [row.name for row in TREES[file].body if isinstance(row, (ast.FunctionDef, ast.ClassDef))]
                defined += [target.id for row in TREES[file].body if isinstance(row, ast.Assign) for target in row.targets]
                self.none((name, alias.name) for alias in node.names if alias.name not in defined)

    def test_imports_are_used_and_run_in_no_circle(self):
        after = {}
        for name, node in nodes(ast.ImportFrom):
            used = {other.id for other in ast.walk(TREES[name]) if isinstance(other, ast.Name)}
            self.none((name, alias.name) for alias in node.names if alias.name not in used)
            if node.module not in LIBRARY:
                after.setdefault(name, set()).add(node.module.split(".")[1])
        left = set(TREES)
        while left:
            free = {name for name in left if not after.get(name, set()) & left}
            self.assertTrue(free, left)
            left -= free

    def test_names(self):
        known = set(dir(builtins))
        for name, tree in TREES.items():
            fixed = {row.name for row in tree.body if isinstance(row, ast.ClassDef)}
            fixed |= {alias.name for row in tree.body if isinstance(row, ast.ImportFrom) for alias in row.names}
            for node in ast.walk(tree):
                if isinstance(node, ast.FunctionDef):
                    self.none((name, node.name, other) for other in bound_in(node) & (fixed | known | BARRED))
                if isinstance(node, ast.Name) and isinstance(node.ctx, ast.Load) and node.id in known:
                    self.assertIn(node.id, BUILTINS, name)
        for name, node in functions():
            self.assertNotIn(node.name, BARRED)
            self.assertFalse(node.name in known and node.name not in METHODS, node.name)
            if node.name.startswith("__"):
                self.assertIn(node.name, DOUBLE)

    def test_no_value_that_is_left_out(self):
        kinds = (
            ast.Lambda, ast.GeneratorExp, ast.Global, ast.Nonlocal, ast.With, ast.AugAssign, ast.AnnAssign,
            ast.Set, ast.NamedExpr, ast.Match, ast.AsyncFunctionDef, ast.Await, ast.Assert, ast.Delete, ast.Div,
            ast.Pow, ast.MatMult,
        )
        self.none((name, type(node), node) for name, node in nodes(kinds))
        self.none(node.value for _, node in nodes(ast.Constant) if isinstance(node.value, (float, complex, bytes)))
        texts = [node.value for _, node in nodes(ast.Constant) if isinstance(node.value, str)]
        self.none(text for text in texts if "%" in text or "__" in text or "\\" in text)
        self.none((name, node.name) for name, node in functions() if node.returns is not None)
        self.none(arg.arg for _, node in functions() for arg in node.args.args if arg.annotation is not None)

    def test_no_nested_function(self):
        for name, node in functions():
            inner = [other for other in ast.walk(node) if isinstance(other, (ast.FunctionDef, ast.ClassDef))]
            self.assertEqual(1, len(inner), (name, node.name))

    def test_sets_only_go_into_sorted_and_len(self):
        taken = [node.args[0] for _, node in nodes(ast.Call) if getattr(node.func, "id", "") in ("sorted", "len")]
        self.none((name, node.lineno) for name, node in nodes(ast.SetComp) if node not in taken)

    def test_views_are_gone_over_at_once(self):
        taken = []
        for _, node in nodes((ast.For, ast.comprehension)):
            taken.append(node.iter)
        for _, node in nodes(ast.Call):
            if getattr(node.func, "id", "") in TAKERS or getattr(node.func, "attr", "") == "join":
                taken.extend(node.args[:1] if node.func.__class__ is ast.Attribute else node.args)
        for name, node in nodes(ast.Assign):
            if isinstance(node.value, ast.Call) and getattr(node.value.func, "id", "") == "range":
                taken.append(node.value)
        for _, node in nodes(ast.Call):
            if getattr(node.func, "id", "") == "reversed":
                taken.extend(other for other in node.args if getattr(getattr(other, "func", None), "id", "") == "range")
        known = {id(node) for node in taken}
        for name, node in nodes(ast.Call):
            if getattr(node.func, "id", "") in VIEWS or getattr(node.func, "attr", "") in ("items", "keys", "values"):
                self.assertIn(id(node), known, (name, node.lineno))

    def test_reversed_takes_what_is_plainly_a_list(self):
        for name, node in nodes(ast.Call):
            if getattr(node.func, "id", "") == "reversed":
                told = node.args[0]
                self.assertIn(getattr(told.func, "id", ""), ("list", "tuple", "sorted", "range"), (name, node.lineno))

    def test_generators_are_gone_over_at_once(self):
        told = {node.name for _, node in functions() if is_generator(node)}
        self.assertEqual(len(told), len([node for _, node in functions() if node.name in told]))
        taken = [node.iter for _, node in nodes((ast.For, ast.comprehension))]
        for _, node in nodes(ast.Call):
            if getattr(node.func, "id", "") in TAKERS - {"len"}:
                taken.extend(node.args)
        for name, node in nodes(ast.Call):
            called = getattr(node.func, "id", getattr(node.func, "attr", ""))
            if called in told:
                self.assertTrue(node in taken, (name, node.lineno))

    def test_a_loop_changes_nothing_but_what_its_function_made_and_does_not_walk(self):
        for name, function in functions():
            made = made_in(function)
            for loop in (node for node in ast.walk(function) if isinstance(node, ast.For)):
                walked = {node.id for node in ast.walk(loop.iter) if isinstance(node, ast.Name)}
                for node in changed_in(loop.body):
                    self.assertIn(getattr(node, "id", None), made - walked, (name, node.lineno))
            for told in (node for node in ast.walk(function) if isinstance(node, (ast.ListComp, ast.DictComp, ast.SetComp))):
                self.none(changed_in([told]))

    def test_calls_of_methods(self):
        own = {row.name for _, row in methods()}
        for name, node in nodes(ast.Call):
            if isinstance(node.func, ast.Attribute):
                self.assertIn(node.func.attr, METHODS | own | {"__init__"}, (name, node.lineno))
                if node.func.attr in METHODS:
                    self.assertEqual([], node.keywords)

    def test_methods_attributes_and_properties_have_names_of_their_own(self):
        stored = {node.attr for _, node in nodes(ast.Attribute) if isinstance(node.ctx, ast.Store)}
        self.assertEqual(set(), stored & NO_ATTRIBUTE)
        told = {row.name for _, row in methods()}
        # Both names are asked for; that method is called nowhere in the package, and no method is read off a class.
        self.assertEqual({"against"}, told & stored)
        self.assertEqual([], [node.attr for _, node in nodes(ast.Attribute) if node.attr in ("against", "__init__")
                              and isinstance(node.value, ast.Name) and node.value.id not in ("self", "value")])
        for row in (row for _, row in nodes(ast.ClassDef)):
            inner = {told.attr for told in ast.walk(row) if isinstance(told, ast.Attribute) and isinstance(told.ctx, ast.Store)}
            self.assertEqual(set(), inner & {told.name for told in row.body if isinstance(told, ast.FunctionDef)})
        values = {target.id for _, node in nodes(ast.ClassDef) for row in node.body if isinstance(row, ast.Assign)
                  for target in row.targets}
        self.assertEqual(set(), values & (told | stored))
        read = {node.attr for _, node in nodes(ast.Attribute) if isinstance(node.ctx, ast.Load)}
        self.assertEqual(set(), read - stored - told - values - METHODS)
        foreign = {name for kind in (str, int, list, dict, tuple, bytes, set) for name in dir(kind)}
        self.assertEqual(set(), (told - DOUBLE) & (foreign - METHODS))

    def test_decorators(self):
        by_kind = {}
        for _, row in methods():
            for told in row.decorator_list:
                by_kind.setdefault(told.id, set()).add(row.name)
        plain = {row.name for _, row in methods() if not row.decorator_list}
        self.assertEqual(set(), set(by_kind) - {"property", "staticmethod", "classmethod"})
        for names in by_kind.values():
            self.assertEqual(set(), names & plain)
        self.none(node.name for _, node in nodes(ast.ClassDef) if node.decorator_list)

    def test_each_method_with_a_star_has_a_plain_first_parameter(self):
        starred = [row for _, row in methods() if row.args.vararg or row.args.kwarg]
        self.none(row.name for row in starred if not row.args.args)

    def test_raise_creates_its_error(self):
        errors = {row.name for row in TREES["errors"].body if isinstance(row, ast.ClassDef)}
        for name, node in nodes(ast.Raise):
            self.assertIsInstance(node.exc, ast.Call, (name, node.lineno))
            self.assertIn(node.exc.func.id, errors)
            self.assertEqual([], node.exc.keywords)

    def test_own_errors_alone_are_caught(self):
        errors = {row.name for row in TREES["errors"].body if isinstance(row, ast.ClassDef)}
        for name, node in nodes(ast.Try):
            for handler in node.handlers:
                self.assertIn(handler.type.id, errors, (name, node.lineno))
                for row in (row for told in handler.body for row in ast.walk(told)):
                    self.assertFalse(isinstance(row, ast.Name) and isinstance(row.ctx, ast.Store) and row.id == handler.name)
            for row in node.finalbody:
                self.assertIsInstance(row, ast.Assign, (name, node.lineno))
                told = [one for one in ast.walk(row) if not isinstance(one, (ast.Assign, ast.Tuple, ast.Name, ast.Attribute, ast.expr_context))]
                self.none(told)

    def test_texts_of_values_only_return(self):
        for _, row in methods():
            if row.name in ("__str__", "__repr__", "__len__", "__eq__", "__bool__"):
                inner = [node for node in ast.walk(row) if isinstance(node, (ast.Assign, ast.For, ast.While))]
                self.none(inner)
                self.assertIsInstance(row.body[-1], ast.Return)

    def test_texts_and_lengths_return_plain_forms(self):
        forms = {"__str__": is_plain_text, "__repr__": is_plain_text, "__len__": is_plain_length}
        for owner, row in methods():
            if row.name in forms:
                told = [node for node in ast.walk(row) if isinstance(node, ast.Return)]
                self.none((owner.name, node.lineno) for node in told if not forms[row.name](node.value))

    def test_operators_properties_and_texts_change_nothing_but_what_they_plainly_made(self):
        for _, row, way in roads():
            made = set() if is_generator(row) else made_in(row)
            self.none((way, node.lineno) for node in changed_in(row.body) if getattr(node, "id", None) not in made)
            stored = [node for node in ast.walk(row) if isinstance(node, ast.Attribute) and not isinstance(node.ctx, ast.Load)]
            self.none((way, node.lineno) for node in stored if row.name != "__init__" or getattr(node.value, "id", "") != "self")

    def test_operators_properties_and_texts_call_nothing_that_they_are_handed_or_hold(self):
        library = BUILTINS | {name for names in LIBRARY.values() for name in names}
        stored = {node.attr for _, node in nodes(ast.Attribute) if isinstance(node.ctx, ast.Store)}
        held = {"__init__"} | METHODS | {row.name for _, row in methods()} - stored
        for name, row, way in roads():
            called = [node.func for node in ast.walk(row) if isinstance(node, ast.Call)]
            plain = {node.id for node in called if isinstance(node, ast.Name)}
            self.none((way, other) for other in plain - (library | set(seen_in(name))) | plain & bound_in(row))
            others = [node for node in called if not isinstance(node, ast.Name)]
            self.none((way, ast.unparse(node)) for node in others if getattr(node, "attr", "") not in held)

    def test_roads_lead_from_operators_to_all_that_they_run(self):
        told = {way[-1] for _, _, way in roads()}
        self.assertEqual(set(), {"__or__", "__and__", "_leanings_told", "_needed_masks", "brings", "added"} - told)

    def test_comparisons_by_is(self):
        for name, node in nodes(ast.Compare):
            for sign, right in zip(node.ops, node.comparators):
                if isinstance(sign, (ast.Is, ast.IsNot)):
                    by_kind = isinstance(node.left, ast.Call) and getattr(node.left.func, "id", "") == "type"
                    plain = isinstance(right, ast.Constant) and right.value in (None, True, False)
                    self.assertTrue(by_kind or plain, (name, node.lineno))


if __name__ == "__main__":
    unittest.main()
