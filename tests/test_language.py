"""The package keeps to its part of Python: the rules that can be seen from the files alone."""

import ast
import builtins
import keyword
import pathlib
import re
import unittest

PACKAGE = pathlib.Path(__file__).resolve().parent.parent / "hostturn"

ERRORS = set("""Exception ValueError TypeError KeyError IndexError LookupError ZeroDivisionError
ArithmeticError OverflowError RuntimeError NotImplementedError AttributeError StopIteration""".split())
OWN_NAMES = ERRORS | set("""len range enumerate zip min max sum abs sorted reversed int str bool list
tuple dict set frozenset isinstance ord repr any all divmod""".split())
METHODS = set("""append clear copy count endswith extend find get index insert isalnum isalpha isdigit
islower isspace isupper items join keys ljust lower lstrip partition pop remove replace reverse rfind
rjust rpartition rsplit rstrip setdefault split splitlines startswith strip update upper values zfill
bit_length""".split())
SPECIAL = {"__init__", "__eq__", "__repr__", "__str__", "__len__"}
WORDS = set("""type typing typing_extensions enum Enum IntEnum StrEnum Flag IntFlag Generic Protocol ABC
ABCMeta namedtuple NamedTuple TypedDict TYPE_CHECKING abstractmethod""".split())
UNUSED = set("""register mro elements open input version_info with_traceback add_note format
format_map""".split())
PYTHONS_VALUES = (str, int, list, dict, set, frozenset, tuple, bytes)
NODES = set("""Module Expr Assign AugAssign If While For Return Break Continue Pass Raise Try
ExceptHandler FunctionDef ClassDef Lambda arguments arg ImportFrom alias Name Load Store Attribute
Subscript Slice Call keyword Constant List Tuple Dict Set ListComp comprehension IfExp Compare BoolOp
BinOp UnaryOp And Or Not USub UAdd Invert Add Sub Mult FloorDiv Mod Pow BitAnd BitOr BitXor LShift
RShift Eq NotEq Lt LtE Gt GtE In NotIn Is IsNot JoinedStr FormattedValue""".split())


def files():
    return sorted(path for path in PACKAGE.rglob("*") if "__pycache__" not in path.parts)


# Parsed once, so that a node met twice is the same one.
TREES = [(path, ast.parse(path.read_text(encoding="ascii"))) for path in files()]


def nodes():
    """Each node of the package with where it stands."""
    for path, tree in TREES:
        for node in ast.walk(tree):
            yield f"{path.name}:{getattr(node, 'lineno', 0)}", node


def bound_names(node):
    """The names that a node binds."""
    if isinstance(node, ast.Name) and isinstance(node.ctx, ast.Store):
        return [node.id]
    if isinstance(node, ast.arg):
        return [node.arg]
    if isinstance(node, (ast.FunctionDef, ast.ClassDef)):
        return [node.name]
    if isinstance(node, ast.ImportFrom):
        return [alias.asname or alias.name for alias in node.names]
    return []


def is_plain(node):
    """A plain value of a file's top: no reckoning, and no list or dict within another."""
    if isinstance(node, ast.UnaryOp):
        return isinstance(node.op, ast.USub) and isinstance(node.operand, ast.Constant)
    if isinstance(node, (ast.Tuple, ast.List)):
        return all(is_plain(part) and not isinstance(part, (ast.List, ast.Dict)) for part in node.elts)
    if isinstance(node, ast.Dict):
        parts = node.keys + node.values
        return all(is_plain(part) and not isinstance(part, (ast.List, ast.Dict)) for part in parts)
    if isinstance(node, ast.Constant):
        return node.value is None or isinstance(node.value, (int, str))
    return isinstance(node, ast.Name)


class Files(unittest.TestCase):
    def test_one_flat_package_of_python_files(self):
        self.assertIn(PACKAGE / "__init__.py", files())
        for path in files():
            self.assertRegex(path.name, r"^([a-z][a-z0-9_]*|__init__|__main__)\.py$")
            if not path.stem.startswith("__"):
                self.assertFalse(hasattr(builtins, path.stem), path.name)

    def test_signs_and_sizes(self):
        for path in files():
            text = path.read_text(encoding="ascii")
            self.assertIsNone(re.search(r"[^ -~\n]", text), path.name)
            self.assertLessEqual(len(text.splitlines()), 400, path.name)
            self.assertLessEqual(max(map(len, text.splitlines())), 120, path.name)

    def test_words_that_stand_nowhere(self):
        for path in files():
            text = path.read_text(encoding="ascii")
            self.assertEqual(set(re.findall(r"\w+", text)) & WORDS, set(), path.name)
            self.assertIsNone(re.search("dataclass|overload|contextmanager", text), path.name)


class Tops(unittest.TestCase):
    def test_what_stands_at_a_files_top(self):
        for path, tree in TREES:
            names = [name for node in tree.body for name in bound_names(node)]
            for node in tree.body:
                where = f"{path.name}:{node.lineno}"
                if isinstance(node, ast.Assign):
                    self.assertTrue(is_plain(node.value), where)
                    names += [target.id for target in node.targets]
                elif isinstance(node, ast.Expr):
                    self.assertIs(node, tree.body[0], where)
                else:
                    self.assertIsInstance(node, (ast.ImportFrom, ast.FunctionDef, ast.ClassDef), where)
            self.assertEqual(len(names), len(set(names)), path.name)

    def test_imports_are_of_the_packages_own_names(self):
        defined = {
            path.stem: {name for node in tree.body if not isinstance(node, ast.ImportFrom)
                        for part in ast.walk(node) for name in bound_names(part)}
            for path, tree in TREES
        }
        drawn = {}
        for path, tree in TREES:
            rows = [node for node in ast.walk(tree) if isinstance(node, ast.ImportFrom)]
            drawn[path.stem] = [row.module.partition(".")[2] for row in rows]
            for row in rows:
                self.assertEqual((row.level, row.module.partition(".")[0]), (0, "hostturn"), path.name)
                self.assertIn(row, tree.body)
                for alias in row.names:
                    self.assertIn(alias.name, defined[row.module.partition(".")[2]], path.name)
        while drawn:
            free = [stem for stem in drawn if not any(other in drawn for other in drawn[stem])]
            self.assertTrue(free, "these files draw from one another: " + " ".join(drawn))
            for stem in free:
                drawn.pop(stem)


class Forms(unittest.TestCase):
    def test_no_form_outside_the_part(self):
        for where, node in nodes():
            self.assertIn(type(node).__name__, NODES, where)
            if isinstance(node, ast.Constant):
                self.assertNotIsInstance(node.value, (float, complex, bytes), where)
                self.assertFalse(isinstance(node.value, str) and "%" in node.value, where)
            if isinstance(node, ast.Assign):
                self.assertEqual(len(node.targets), 1, where)
                self.assertNotIsInstance(node.targets[0], (ast.Tuple, ast.List), where)
            if isinstance(node, (ast.For, ast.While)):
                self.assertEqual(node.orelse, [], where)
            if isinstance(node, ast.Try):
                self.assertEqual(node.finalbody, [], where)
            if isinstance(node, ast.ListComp):
                self.assertEqual(len(node.generators), 1, where)
                self.assertLessEqual(len(node.generators[0].ifs), 1, where)
            if isinstance(node, ast.FormattedValue):
                self.assertIsInstance(node.value, ast.Name, where)
                self.assertIsNone(node.format_spec, where)
            if isinstance(node, ast.BinOp) and isinstance(node.op, ast.Pow):
                self.assertIsInstance(node.right, ast.Constant, where)
            if isinstance(node, ast.Compare):
                for operator, right in zip(node.ops, node.comparators):
                    if isinstance(operator, (ast.Is, ast.IsNot)):
                        self.assertIn(getattr(right, "value", 0), (None, True, False), where)

    def test_functions_and_classes(self):
        for where, node in nodes():
            if isinstance(node, (ast.FunctionDef, ast.Lambda)):
                rest = node.args
                self.assertFalse(rest.vararg or rest.kwarg or rest.kwonlyargs or rest.posonlyargs, where)
                self.assertTrue(all(is_plain(part) for part in rest.defaults), where)
            if isinstance(node, ast.FunctionDef):
                self.assertEqual(node.decorator_list, [], where)
                self.assertLessEqual(node.end_lineno - node.lineno + 1, 40, where)
            if isinstance(node, ast.ClassDef):
                self.assertEqual((node.decorator_list, node.keywords), ([], []), where)
                self.assertLessEqual(len(node.bases), 1, where)
                for part in node.body[1:]:
                    self.assertIsInstance(part, ast.FunctionDef, where)
                methods = [part.name for part in node.body[1:]]
                self.assertEqual(len(methods), len(set(methods)), where)


class Names(unittest.TestCase):
    def test_plain_names_that_are_not_pythons_own(self):
        methods = {part for where, node in nodes() if isinstance(node, ast.ClassDef) for part in node.body}
        for where, node in nodes():
            for name in bound_names(node):
                if name in SPECIAL and node in methods:
                    continue
                self.assertRegex(name, r"^[A-Za-z][A-Za-z0-9_]*$", where)
                self.assertNotIn(name, UNUSED, where)
                if node not in methods:
                    self.assertFalse(hasattr(builtins, name) or keyword.issoftkeyword(name), where)

    def test_names_of_pythons_own_that_may_be_used(self):
        for where, node in nodes():
            if isinstance(node, ast.Name) and hasattr(builtins, node.id):
                self.assertIn(node.id, OWN_NAMES, where)

    def test_methods_of_pythons_own_and_of_the_package(self):
        methods = {part.name for where, node in nodes() if isinstance(node, ast.ClassDef)
                   for part in node.body if isinstance(part, ast.FunctionDef)}
        given = {node.attr for where, node in nodes()
                 if isinstance(node, ast.Attribute) and isinstance(node.ctx, ast.Store)}
        self.assertEqual(methods & given, set())
        for where, node in nodes():
            if isinstance(node, ast.Attribute):
                self.assertIn(node.attr, METHODS | SPECIAL | methods | given, where)
                self.assertNotIn(node.attr, UNUSED, where)
        taken = {name for kind in PYTHONS_VALUES for name in dir(kind)}
        self.assertEqual((methods - SPECIAL) & taken - METHODS - {"add", "discard"}, set())

    def test_no_local_is_called_like_a_class_or_an_import_of_its_file(self):
        for path, tree in TREES:
            held = {name for node in tree.body if isinstance(node, (ast.ClassDef, ast.ImportFrom))
                    for name in bound_names(node)}
            for node in ast.walk(tree):
                if isinstance(node, (ast.Name, ast.arg)):
                    self.assertEqual(set(bound_names(node)) & held, set(), f"{path.name}:{node.lineno}")


class Uses(unittest.TestCase):
    """How classes, sets, and the lists and dicts of a file's top are used."""

    def uses(self, names):
        """Each reading of one of the names: where, its name, the node that holds it."""
        for path, tree in TREES:
            for above in ast.walk(tree):
                for node in ast.iter_child_nodes(above):
                    if isinstance(node, ast.Name) and isinstance(node.ctx, ast.Load) and node.id in names:
                        yield f"{path.name}:{node.lineno}", node, above

    def test_a_class_is_not_kept_or_handed_on(self):
        classes = {node.name for where, node in nodes() if isinstance(node, ast.ClassDef)}
        for where, node, above in self.uses(classes):
            called = isinstance(above, ast.Call) and above.func is node
            looked = isinstance(above, ast.Call) and getattr(above.func, "id", "") == "isinstance"
            through = isinstance(above, ast.Attribute) and above.attr == "__init__"
            other = isinstance(above, (ast.ClassDef, ast.ExceptHandler))
            self.assertTrue(called or looked or through or other, where)

    def test_a_set_is_not_kept_or_walked(self):
        makings = {id(above) for where, node, above in self.uses({"set", "frozenset"})}
        for where, above in nodes():
            for node in ast.iter_child_nodes(above):
                if id(node) in makings:
                    within = isinstance(above, ast.Call) and getattr(above.func, "id", "") in ("sorted", "len")
                    self.assertTrue(within or isinstance(above, (ast.Compare, ast.BinOp)), where)

    def test_what_a_files_top_keeps_is_only_read(self):
        kept = {target.id for path, tree in TREES for node in tree.body if isinstance(node, ast.Assign)
                for target in node.targets if isinstance(node.value, (ast.List, ast.Dict))}
        for where, node, above in self.uses(kept):
            if isinstance(above, ast.Subscript):
                self.assertIsInstance(above.ctx, ast.Load, where)
            elif isinstance(above, ast.Attribute):
                self.assertIn(above.attr, {"get", "items", "keys", "values"}, where)
            elif isinstance(above, ast.Call):
                self.assertIn(getattr(above.func, "id", ""), {"len", "list", "dict", "sorted"}, where)
            else:
                self.assertIsInstance(above, (ast.Compare, ast.For, ast.comprehension), where)


if __name__ == "__main__":
    unittest.main()
