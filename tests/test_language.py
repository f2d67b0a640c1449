"""The package keeps to its subset of Python: the rules that can be read off the code, as far as they bear on it."""

import ast
import builtins
import pathlib
import re
import unittest

FOLDER = pathlib.Path(__file__).resolve().parent.parent / "walksback"
FILES = sorted(path for path in FOLDER.rglob("*") if "__pycache__" not in path.parts)
TREES = {path.stem: ast.parse(path.read_text(encoding="utf-8")) for path in FILES}

BUILTINS = set("""len range enumerate zip min max sum abs sorted reversed int str bool bytes list tuple dict set
frozenset isinstance ord repr any all divmod Exception ValueError TypeError KeyError IndexError LookupError
ZeroDivisionError ArithmeticError OverflowError RuntimeError NotImplementedError NotImplemented True False
None""".split())
METHODS = set("""append clear copy count endswith extend find get index insert isalnum isalpha isdigit islower isspace
isupper items join keys ljust lower lstrip partition pop remove replace reverse rfind rjust rpartition rsplit rstrip
setdefault split splitlines startswith strip update upper values zfill bit_length swapcase""".split())
ALL_BUILTINS = {name for name in dir(builtins) if not name.startswith("_")}
BARRED = set("""register mro elements open input law version_info with_traceback add_note attrgetter breakpoint builtins
compile copyright credits delattr dir eval exec exit gc getattr globals hasattr help id importlib license locals
methodcaller os quit setattr super type vars sys""".split())
BARRED_WORDS = set("""type typing typing_extensions enum Enum IntEnum StrEnum Flag IntFlag Generic Protocol ABC ABCMeta
namedtuple NamedTuple TypedDict TYPE_CHECKING abstractmethod dataclass overload contextmanager""".split())
SPECIAL = set("""__init__ __eq__ __repr__ __str__ __len__ __enter__ __exit__ __call__ __iter__ __contains__ __getitem__
__setitem__ __bool__ __neg__ __pos__ __invert__ __abs__ __lt__ __le__ __gt__ __ge__ __ne__""".split())
BINARY = set("""__add__ __sub__ __mul__ __floordiv__ __mod__ __pow__ __and__ __or__ __xor__ __lshift__
__rshift__""".split())
REFLECTED = {name.replace("__", "__r", 1) for name in BINARY} - {"__rpow__"}
OPERATORS = BINARY | REFLECTED | {"__contains__", "__invert__", "__neg__", "__lt__", "__eq__", "__repr__", "__len__",
                                  "__getitem__"}
STATEMENTS = (ast.Assign, ast.AugAssign, ast.If, ast.While, ast.For, ast.Return, ast.Break, ast.Continue, ast.Pass,
              ast.Raise, ast.Expr, ast.FunctionDef, ast.ClassDef, ast.ImportFrom, ast.Try, ast.ExceptHandler,
              ast.With, ast.withitem)
VALUES = (ast.Constant, ast.Name, ast.Attribute, ast.Subscript, ast.Slice, ast.Call, ast.keyword, ast.BinOp,
          ast.UnaryOp, ast.BoolOp, ast.Compare, ast.IfExp, ast.List, ast.Tuple, ast.Dict, ast.Set, ast.ListComp,
          ast.DictComp, ast.SetComp, ast.comprehension, ast.JoinedStr, ast.FormattedValue, ast.Starred, ast.Lambda,
          ast.arguments, ast.arg, ast.alias, ast.Module, ast.operator, ast.unaryop, ast.boolop, ast.cmpop,
          ast.expr_context)
LIBRARY = {"math": {"gcd", "lcm", "isqrt", "comb", "perm", "factorial"}}
AT_ONCE = {"list", "tuple", "dict", "sorted", "sum", "any", "all", "enumerate", "zip", "min", "max", "join", "set"}


def walk_with_parents(tree):
    """Tuples (node, parent) of all nodes below a tree."""
    for parent in ast.walk(tree):
        for node in ast.iter_child_nodes(parent):
            yield node, parent


def functions(tree):
    return [node for node in ast.walk(tree) if isinstance(node, ast.FunctionDef)]


def name_of_call(node):
    """The name by which a call calls, without what stands ahead of its last dot."""
    if not isinstance(node, ast.Call):
        return None
    return node.func.id if isinstance(node.func, ast.Name) else getattr(node.func, "attr", None)


def bound_in(function):
    """The names of parameters and local variables of a function."""
    names = {node.arg for node in ast.walk(function) if isinstance(node, ast.arg)}
    return names | {node.id for node in ast.walk(function)
                    if isinstance(node, ast.Name) and isinstance(node.ctx, ast.Store)}


def bound_in_arguments(function):
    """The names of parameters, and of what the function itself assigns outside of comprehensions."""
    inside = {name for node in ast.walk(function) if isinstance(node, (ast.ListComp, ast.DictComp, ast.SetComp))
              for name in stores(node)}
    return {node.arg for node in ast.walk(function) if isinstance(node, ast.arg)} | {
        node.id for node in ast.walk(function)
        if isinstance(node, ast.Name) and isinstance(node.ctx, ast.Store) and node not in inside}


def stores(comprehension):
    """The nodes of the variables of a comprehension and of those in it."""
    return [node for node in ast.walk(comprehension)
            if isinstance(node, ast.Name) and isinstance(node.ctx, ast.Store)]


def variables(comprehension):
    """The names of the variables of a comprehension itself."""
    return {node.id for part in comprehension.generators for node in ast.walk(part.target)
            if isinstance(node, ast.Name)} - {"_"}


def docstrings(tree):
    """The nodes that are docstrings."""
    told = []
    for node in ast.walk(tree):
        if isinstance(node, (ast.Module, ast.ClassDef, ast.FunctionDef)) and ast.get_docstring(node) is not None:
            told.append(node.body[0].value)
    return told


def is_sum_of_sets(node):
    """Whether two sets that are written there are joined by a sign between sets."""
    if not isinstance(node, ast.BinOp) or not isinstance(node.op, (ast.BitXor, ast.BitAnd, ast.BitOr, ast.Sub)):
        return False
    return name_of_call(node.left) == name_of_call(node.right) == "set"


def same_names(function):
    """A dict from each name of a function to all names that may be one and the same list with it, by assignments."""
    groups = {}
    for node in ast.walk(function):
        if isinstance(node, ast.Assign):
            pairs = [(target, node.value) for target in node.targets]
            for target, value in pairs:
                if isinstance(target, ast.Tuple) and isinstance(value, ast.Tuple):
                    pairs += list(zip(target.elts, value.elts))
                parts = [value]
                if isinstance(value, ast.IfExp):
                    parts = [value.body, value.orelse]
                if isinstance(value, ast.BoolOp):
                    parts = value.values
                for part in parts:
                    if isinstance(target, ast.Name) and isinstance(part, (ast.Name, ast.Subscript, ast.Attribute)):
                        one, other = target.id, ast.unparse(part)
                        joined = groups.get(one, {one}) | groups.get(other, {other})
                        groups.update({name: joined for name in joined})
    return groups


def walked_by(node):
    """What a loop walks, as it is written: names, fields and items, also within enumerate, zip and the like."""
    if isinstance(node, (ast.Name, ast.Attribute, ast.Subscript)):
        return [ast.unparse(node)]
    if isinstance(node, ast.IfExp):
        return walked_by(node.body) + walked_by(node.orelse)
    if isinstance(node, ast.BoolOp):
        return [name for value in node.values for name in walked_by(value)]
    if name_of_call(node) in ("enumerate", "zip", "reversed", "iter"):
        return [name for argument in node.args for name in walked_by(argument)]
    if name_of_call(node) in ("items", "keys", "values"):
        return walked_by(node.func.value)
    return []


CHANGING = {"append", "extend", "insert", "pop", "remove", "clear", "reverse", "sort", "update", "setdefault"}


def changed_by(node):
    """What is changed below a node, as it is written."""
    told = []
    for part in ast.walk(node):
        if isinstance(part, ast.Call) and isinstance(part.func, ast.Attribute) and part.func.attr in CHANGING:
            told.append(ast.unparse(part.func.value))
        if isinstance(part, ast.Subscript) and isinstance(part.ctx, (ast.Store, ast.Del)):
            told.append(ast.unparse(part.value))
        if isinstance(part, ast.AugAssign):
            told.append(ast.unparse(part.target))
    return told


class LanguageTest(unittest.TestCase):
    def test_what_a_loop_walks_is_not_changed_in_it(self):
        for stem, tree in TREES.items():
            for function in functions(tree):
                groups = same_names(function)
                for loop in ast.walk(function):
                    walked = walked_by(loop.iter) if isinstance(loop, (ast.For, ast.comprehension)) else []
                    changed = changed_by(loop)
                    for name in walked:
                        for other in groups.get(name, {name}):
                            self.assertNotIn(other, changed, (stem, function.name, name))

    def test_names_in_comprehensions(self):
        # The variable of a comprehension inside another one has a name of its own.
        for stem, tree in TREES.items():
            for function in functions(tree):
                for outer in ast.walk(function):
                    for inner in ast.walk(outer):
                        if outer is not inner and all(isinstance(part, (ast.ListComp, ast.DictComp, ast.SetComp))
                                                      for part in (outer, inner)):
                            self.assertFalse(variables(inner) & bound_in_arguments(function), (stem, function.name))
                            self.assertFalse(variables(inner) & variables(outer), (stem, function.name))

    def test_files(self):
        for path in FILES:
            self.assertTrue(path.is_file() and re.fullmatch(r"[a-z0-9_]+\.py", path.name), path)
            text = path.read_bytes().decode("ascii")
            self.assertTrue(all(" " <= sign <= "~" or sign == "\n" for sign in text), path)
            rows = text.split("\n")
            self.assertLessEqual(len(rows) - 1, 399, path)
            self.assertLessEqual(max(map(len, rows)), 120, path)
            self.assertFalse("_wall" in text or "_WallAttr" in text, path)

    def test_functions_are_small(self):
        for stem, tree in TREES.items():
            for function in functions(tree):
                first = min([function.lineno, *(node.lineno for node in function.decorator_list)])
                self.assertLessEqual(function.end_lineno - first + 1, 40, (stem, function.name))
                self.assertIsNotNone(ast.get_docstring(function) or function.name.startswith("__") or None,
                                     (stem, function.name))

    def test_module_level(self):
        for stem, tree in TREES.items():
            bound = []
            for node in tree.body:
                if isinstance(node, ast.Assign):
                    self.assertEqual(1, len(node.targets), stem)
                    self.assertIsInstance(node.targets[0], ast.Name, stem)
                    self.check_plain(stem, node.value, bound)
                    bound.append(node.targets[0].id)
                elif isinstance(node, ast.ImportFrom):
                    bound += [part.name for part in node.names]
                elif isinstance(node, (ast.FunctionDef, ast.ClassDef)):
                    bound.append(node.name)
                else:
                    self.assertIn(getattr(node, "value", None), docstrings(tree), stem)
            self.assertEqual(len(bound), len(set(bound)), stem)

    def check_plain(self, stem, node, bound):
        """A value at module level is plain, or a dict from plain keys to functions of its file that stand above."""
        above = {part.name for part in TREES[stem].body if isinstance(part, ast.FunctionDef)} & set(bound)
        if isinstance(node, ast.Dict) and all(isinstance(value, ast.Name) for value in node.values):
            self.assertTrue(all(isinstance(key, ast.Constant) for key in node.keys), stem)
            self.assertTrue({value.id for value in node.values} <= above, stem)
            return
        told = ast.literal_eval(node)
        for part in told.values() if isinstance(told, dict) else told if isinstance(told, (list, tuple)) else ():
            self.assertNotIsInstance(part, (list, dict), stem)

    def test_functions_of_a_table_are_called_by_a_name(self):
        for stem, tree in TREES.items():
            for node in ast.walk(tree):
                if isinstance(node, ast.Call):
                    self.assertIsInstance(node.func, (ast.Name, ast.Attribute), (stem, node.lineno))

    def test_own_errors_alone_are_caught(self):
        own = {node.name for node in TREES["errors"].body if isinstance(node, ast.ClassDef)}
        for stem, tree in TREES.items():
            for node in ast.walk(tree):
                if isinstance(node, ast.Try):
                    self.assertFalse(node.finalbody or node.orelse, stem)
                if isinstance(node, ast.ExceptHandler):
                    kinds = node.type.elts if isinstance(node.type, ast.Tuple) else [node.type]
                    self.assertTrue(all(isinstance(kind, ast.Name) and kind.id in own for kind in kinds), stem)
                if isinstance(node, ast.Raise) and node.exc is not None:
                    self.assertTrue(isinstance(node.exc, ast.Call) and isinstance(node.exc.func, ast.Name), stem)
                    self.assertIn(node.exc.func.id, own | {"TypeError"}, stem)

    def test_with(self):
        # What is gone into is an object of an own class; on the way out attributes are put back, and nothing else.
        for stem, tree in TREES.items():
            for node in ast.walk(tree):
                if isinstance(node, ast.withitem):
                    self.assertIsInstance(node.context_expr, ast.Call, stem)
                    self.assertIsInstance(node.optional_vars, ast.Name, stem)
            for node in functions(tree):
                if node.name == "__exit__":
                    self.assertEqual(["self", "kind", "value", "trace"], [part.arg for part in node.args.args], stem)
                    for row in node.body:
                        self.assertIsInstance(row, ast.Assign, stem)
                        self.assertIsInstance(row.targets[0], ast.Attribute, stem)
                        self.assertIsInstance(row.value, ast.Attribute, stem)

    def test_words_that_do_not_occur_beside_items(self):
        self.assertIn("__getitem__", {node.name for tree in TREES.values() for node in functions(tree)})
        for path in FILES:
            text = path.read_text(encoding="utf-8")
            for word in ("(type)", "Meta", "metaclass=", "dataclass", "overload", "contextmanager", "_wall"):
                self.assertNotIn(word, text, path)
        self.assertNotIn("keys", {node.name for tree in TREES.values() for node in functions(tree)})

    def test_no_name_is_a_method_and_an_attribute(self):
        for stem, tree in TREES.items():
            for kind in [node for node in tree.body if isinstance(node, ast.ClassDef)]:
                methods = {node.name for node in kind.body if isinstance(node, ast.FunctionDef)}
                stored = {node.attr for node in ast.walk(kind)
                          if isinstance(node, ast.Attribute) and isinstance(node.ctx, ast.Store)}
                self.assertFalse(methods & stored, (stem, kind.name))

    def test_imports(self):
        leads = {}
        for stem, tree in TREES.items():
            leads[stem] = set()
            for node in ast.walk(tree):
                self.assertNotIsInstance(node, ast.Import, stem)
                if isinstance(node, ast.ImportFrom) and node.module in LIBRARY:
                    self.assertTrue({part.name for part in node.names} <= LIBRARY[node.module], stem)
                    self.assertTrue(all(part.asname is None for part in node.names), stem)
                elif isinstance(node, ast.ImportFrom):
                    package, _, other = node.module.partition(".")
                    self.assertEqual((0, "walksback"), (node.level, package), stem)
                    leads[stem].add(other)
                    here = {part.name for part in TREES[other].body if hasattr(part, "name")}
                    here |= {part.targets[0].id for part in TREES[other].body if isinstance(part, ast.Assign)}
                    for part in node.names:
                        self.assertIn(part.name, here, stem)
                        self.assertIsNone(part.asname, stem)
        left = dict(leads)
        while left:
            free = [stem for stem in left if not left[stem] & set(left)]
            self.assertTrue(free, f"imports go round: {sorted(left)}")
            left = {stem: left[stem] for stem in left if stem not in free}

    def test_every_import_is_used(self):
        for stem, tree in TREES.items():
            used = {node.id for node in ast.walk(tree) if isinstance(node, ast.Name)}
            for node in tree.body:
                if isinstance(node, ast.ImportFrom):
                    for part in node.names:
                        self.assertIn(part.name, used, stem)

    def test_statements_and_values(self):
        for stem, tree in TREES.items():
            for node in ast.walk(tree):
                self.assertIsInstance(node, STATEMENTS + VALUES, (stem, getattr(node, "lineno", 0)))
                self.assertNotIsInstance(node, (ast.Div, ast.MatMult), stem)
                if isinstance(node, ast.Constant):
                    self.assertNotIsInstance(node.value, (float, complex, bytes), (stem, node.lineno))
                if isinstance(node, ast.BinOp) and isinstance(node.op, ast.Pow):
                    self.assertIsInstance(node.right, ast.Constant, (stem, node.lineno))
                if isinstance(node, ast.FunctionDef):
                    self.assertTrue(all(isinstance(part, ast.Name) and part.id in ("property", "classmethod")
                                        for part in node.decorator_list), (stem, node.lineno))

    def test_names(self):
        for stem, tree in TREES.items():
            imports = {part.name for node in tree.body if isinstance(node, ast.ImportFrom) for part in node.names}
            classes = {node.name for node in tree.body if isinstance(node, ast.ClassDef)}
            for node in functions(tree):
                self.assertFalse(bound_in(node) & (imports | classes), (stem, node.name))
                for name in bound_in(node) | {node.name}:
                    self.assertFalse(name in BARRED | ALL_BUILTINS, (stem, name))
            for node in ast.walk(tree):
                if isinstance(node, ast.Attribute):
                    self.assertTrue(re.fullmatch(r"_?[A-Za-z][A-Za-z0-9_]*", node.attr), (stem, node.attr))
                    self.assertNotIn(node.attr, ("format", "format_map", "mro", "args", "sort"), stem)
                if isinstance(node, ast.Name) and node.id in ALL_BUILTINS:
                    self.assertIn(node.id, BUILTINS | {"property", "classmethod", "iter"}, (stem, node.lineno))
                if isinstance(node, ast.Name) and node.id == "_":
                    self.assertIsInstance(node.ctx, ast.Store, (stem, node.lineno))

    def test_strings(self):
        for stem, tree in TREES.items():
            told = docstrings(tree)
            for node in ast.walk(tree):
                if isinstance(node, ast.Constant) and isinstance(node.value, str):
                    self.assertNotIn("%", node.value, (stem, node.lineno))
                    self.assertFalse(node.value.endswith(("._", ".__")), (stem, node.lineno))
                    if node not in told:
                        self.assertFalse(BARRED_WORDS & set(re.findall(r"\w+", node.value)), (stem, node.lineno))

    def test_methods(self):
        own = {node.name for tree in TREES.values() for node in functions(tree)}
        for stem, tree in TREES.items():
            for node in ast.walk(tree):
                if isinstance(node, ast.Call) and isinstance(node.func, ast.Attribute):
                    self.assertIn(node.func.attr, METHODS | own, (stem, node.lineno))

    def test_sets_and_what_is_iterated_at_once(self):
        for stem, tree in TREES.items():
            for node, parent in walk_with_parents(tree):
                where = (stem, getattr(node, "lineno", 0))
                if isinstance(node, (ast.Set, ast.SetComp)) or name_of_call(node) == "set":
                    self.assertTrue(isinstance(parent, ast.Compare) or name_of_call(parent) in ("sorted", "len")
                                    or is_sum_of_sets(parent), where)
                if is_sum_of_sets(node):
                    self.assertTrue(isinstance(parent, ast.Compare) or name_of_call(parent) in ("sorted", "len"), where)
                if name_of_call(node) in ("zip", "enumerate", "reversed", "items", "keys", "values", "map", "range"):
                    self.assertTrue(isinstance(parent, (ast.For, ast.comprehension))
                                    or name_of_call(parent) in AT_ONCE
                                    or (name_of_call(node), name_of_call(parent)) == ("range", "reversed"), where)

    def test_classes(self):
        for stem, tree in TREES.items():
            for kind in [node for node in tree.body if isinstance(node, ast.ClassDef)]:
                methods = [node for node in kind.body if isinstance(node, ast.FunctionDef)]
                names = [node.name for node in methods]
                self.assertEqual(len(names), len(set(names)), (stem, kind.name))
                for node in methods:
                    if not node.name.startswith("__"):
                        continue
                    self.assertIn(node.name, SPECIAL | BINARY | REFLECTED, stem)
                    if node.name in BINARY | REFLECTED | {"__eq__"}:
                        self.assertEqual(["self", "other"], [part.arg for part in node.args.args], stem)
                    if node.name == "__iter__":
                        self.assertEqual(1, len(node.body), (stem, kind.name))
                        row = ast.unparse(node.body[0])
                        self.assertRegex(row, r"^return iter\(self\.\w+\)$|^raise TypeError\('[a-z ]+'\)$", stem)
                    if node.name == "__contains__":
                        self.assertEqual(["self", "x"], [part.arg for part in node.args.args], stem)
                    if node.name == "__getitem__":
                        self.assertEqual(["self", "at"], [part.arg for part in node.args.args], stem)
                        self.assertIn("__iter__", names, stem)
                    if node.name == "__len__":
                        self.assertRegex(ast.unparse(node.body[-1]), r"^return len\(self\.\w+\)$", stem)
                if "__radd__" in names:
                    self.assertFalse(kind.bases, (stem, kind.name))

    def test_operators_change_nothing(self):
        for stem, node in reached_from_operators():
            where = (stem, node.name)
            made = {part.targets[0].id for part in ast.walk(node) if isinstance(part, ast.Assign)
                    and isinstance(part.targets[0], ast.Name)
                    and isinstance(part.value, (ast.Dict, ast.List, ast.ListComp))}
            for part in ast.walk(node):
                self.assertNotIsInstance(part, ast.AugAssign, where)
                if isinstance(part, ast.Attribute):
                    self.assertNotIsInstance(part.ctx, ast.Store, where)
                if isinstance(part, ast.Subscript) and isinstance(part.ctx, ast.Store):
                    self.assertIn(part.value.id, made, where)
                if isinstance(part, ast.Call) and isinstance(part.func, ast.Attribute):
                    if part.func.attr == "append":
                        self.assertIn(part.func.value.id, made, where)
                    else:
                        self.assertIn(part.func.attr, OWN_OR_READING, where)
                if isinstance(part, ast.Call) and isinstance(part.func, ast.Name):
                    self.assertNotIn(part.func.id, {name.arg for name in node.args.args}, where)


OWN_OR_READING = {"join", "items", "keys", "values", "get", "count", "index", "find", "startswith", "endswith"} | {
    node.name for tree in TREES.values() for node in functions(tree)}


def reached_from_operators():
    """Tuples (file, function) of the operators and properties, and of all that they call by a name."""
    by_name = {}
    for stem, tree in TREES.items():
        for kind in [tree, *[node for node in tree.body if isinstance(node, ast.ClassDef)]]:
            for node in kind.body:
                if isinstance(node, ast.FunctionDef) and node.name != "__init__":
                    by_name.setdefault(node.name, []).append((stem, node))
    # A class that is called runs its __init__, which sets attributes of the new object, and what this calls.
    met = [pair for name in OPERATORS for pair in by_name.get(name, [])]
    met += [pair for name in ("nodes", "check_lot_words", "in_sequence", "check_nodes", "check_ties")
            for pair in by_name[name]]
    for _, node in met:
        for part in ast.walk(node):
            met += [pair for pair in by_name.get(name_of_call(part), []) if pair not in met]
    return met


if __name__ == "__main__":
    unittest.main()
