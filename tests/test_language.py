"""The package's files keep to those rules of the language that can be seen file by file."""

import ast
import builtins
import pathlib
import unittest

PACKAGE = pathlib.Path(__file__).resolve().parent.parent / "tenanthall"
FILES = sorted(path for path in PACKAGE.rglob("*") if path.is_file() and "__pycache__" not in path.parts)

CALLABLE = set("""len range enumerate zip min max sum abs sorted reversed int str bool list tuple dict set
isinstance ord repr any all divmod map""".split())
ERRORS = {"ValueError"}
METHODS = set("""append clear copy count endswith extend find get index insert isalnum isalpha isdigit islower isspace
isupper items join keys ljust lower lstrip partition pop remove replace reverse rfind rjust rpartition rsplit rstrip
setdefault split splitlines startswith strip update upper values zfill bit_length removeprefix removesuffix rindex
isascii""".split())
LIBRARY = {"heapq": {"heappush", "heappop"}, "math": {"gcd", "lcm", "isqrt", "comb", "perm", "factorial"},
           "itertools": {"product", "combinations", "permutations"}}
OWN_DOUBLE = {"__init__", "__len__", "__str__", "__eq__"}
BARRED_NODES = (ast.Global, ast.AsyncFunctionDef, ast.AsyncFor, ast.AsyncWith, ast.Await, ast.GeneratorExp, ast.Div,
                ast.AnnAssign, ast.Lambda, ast.Yield, ast.YieldFrom, ast.Import)
BARRED_WORDS = r"\b(typing|enum|Enum|Generic|Protocol|ABC|namedtuple)\b|dataclass|overload|contextmanager|_wall|_Wall"
BARRED_NAMES = set("register mro elements open input law version_info attrgetter compile delattr dir eval exec exit "
                   "gc globals help id license locals os quit vars type sys".split())


def trees():
    return [(path, ast.parse(path.read_text())) for path in FILES]


def functions(tree):
    return [node for node in ast.walk(tree) if isinstance(node, ast.FunctionDef)]


def given_names(tree):
    """Names that a file gives: to functions, classes, parameters and variables."""
    for node in ast.walk(tree):
        if isinstance(node, (ast.FunctionDef, ast.ClassDef)):
            yield node.name
        elif isinstance(node, ast.arg):
            yield node.arg
        elif isinstance(node, ast.Name) and not isinstance(node.ctx, ast.Load):
            yield node.id


def classes():
    return [node for _, tree in trees() for node in ast.walk(tree) if isinstance(node, ast.ClassDef)]


def own_methods():
    return {node.name for made in classes() for node in made.body if isinstance(node, ast.FunctionDef)}


def own_attributes():
    """Attributes that methods assign to their own objects."""
    return {node.attr for made in classes() for node in ast.walk(made)
            if isinstance(node, ast.Attribute) and isinstance(node.ctx, ast.Store)}


def imports(tree):
    return [node for node in ast.walk(tree) if isinstance(node, ast.ImportFrom)]


class Files(unittest.TestCase):

    def test_only_files_of_python(self):
        for path in FILES:
            self.assertRegex(path.name, r"\A(__init__|[a-z]+)\.py\Z")
        self.assertLessEqual(len(FILES), 100)

    def test_signs_and_lengths(self):
        for path in FILES:
            text = path.read_text()
            self.assertTrue(all(sign == "\n" or " " <= sign <= "~" for sign in text), path)
            rows = text.splitlines()
            self.assertLessEqual(len(rows), 399, path)
            self.assertLessEqual(max(len(row) for row in rows), 120, path)
            self.assertNotRegex(text, BARRED_WORDS, path)

    def test_functions_are_small(self):
        for path, tree in trees():
            for node in functions(tree):
                self.assertLessEqual(node.end_lineno - node.lineno + 1, 40, (path, node.name))

    def test_no_barred_parts(self):
        for path, tree in trees():
            for node in ast.walk(tree):
                self.assertNotIsInstance(node, BARRED_NODES, (path, getattr(node, "lineno", 0)))
                if isinstance(node, ast.Constant):
                    self.assertNotIsInstance(node.value, (float, bytes, complex), path)
                    if isinstance(node.value, str):
                        self.assertNotIn("%", node.value, path)
                if isinstance(node, (ast.FunctionDef, ast.ClassDef)):
                    self.assertEqual(node.decorator_list, [], path)

    def test_no_annotations(self):
        for path, tree in trees():
            for node in functions(tree):
                told = [argument.annotation for argument in ast.walk(node) if isinstance(argument, ast.arg)]
                self.assertEqual(set(told + [node.returns]), {None}, (path, node.name))

    def test_is_stands_with_none_and_truths_alone(self):
        for path, tree in trees():
            for node in ast.walk(tree):
                if isinstance(node, ast.Compare):
                    for operator, other in zip(node.ops, node.comparators):
                        if isinstance(operator, (ast.Is, ast.IsNot)):
                            self.assertIsInstance(other, ast.Constant, (path, node.lineno))


class Names(unittest.TestCase):

    def test_no_builtin_is_given_another_meaning(self):
        for path, tree in trees():
            for name in given_names(tree):
                if name not in OWN_DOUBLE:
                    self.assertFalse(hasattr(builtins, name), (path, name))
                    self.assertNotIn(name, BARRED_NAMES, path)
                    self.assertFalse(name.startswith("__"), (path, name))

    def test_builtins_and_methods_called_are_those_that_may_be(self):
        own = own_methods()
        for path, tree in trees():
            used = {node.id for node in ast.walk(tree) if isinstance(node, ast.Name)}
            self.assertLessEqual({name for name in used if hasattr(builtins, name)}, CALLABLE | ERRORS, path)
            for node in ast.walk(tree):
                if isinstance(node, ast.Call) and isinstance(node.func, ast.Attribute):
                    self.assertIn(node.func.attr, METHODS | own, (path, node.lineno))

    def test_no_name_is_a_method_and_an_attribute(self):
        self.assertFalse(own_methods() & own_attributes())

    def test_attributes_have_no_names_of_pythons_own_methods(self):
        for name in own_attributes():
            self.assertFalse(any(hasattr(kind, name) for kind in (str, int, list, dict, set, bytes)), name)

    def test_finally_only_counts(self):
        for path, tree in trees():
            for node in ast.walk(tree):
                if isinstance(node, ast.Try):
                    for row in node.finalbody:
                        self.assertIsInstance(row, ast.AugAssign, (path, row.lineno))
                    for handler in node.handlers:
                        self.assertRegex(handler.type.id, "^No[A-Z]", (path, handler.lineno))

    def test_one_binding_for_each_name(self):
        for path, tree in trees():
            bound = []
            for node in tree.body:
                if isinstance(node, ast.ImportFrom):
                    bound.extend(alias.asname or alias.name for alias in node.names)
                elif isinstance(node, (ast.FunctionDef, ast.ClassDef)):
                    bound.append(node.name)
                elif isinstance(node, ast.Assign):
                    self.assertEqual([target.__class__ for target in node.targets], [ast.Name], path)
                    bound.append(node.targets[0].id)
                else:
                    self.assertIsInstance(node.value, ast.Constant, path)
            self.assertEqual(len(bound), len(set(bound)), path)

    def test_no_parameter_or_variable_has_the_name_of_an_import_or_a_class(self):
        for path, tree in trees():
            told = {alias.name for node in imports(tree) for alias in node.names}
            told.update(node.name for node in tree.body if isinstance(node, ast.ClassDef))
            local = {name for node in functions(tree) for name in given_names(node) if name != node.name}
            self.assertFalse(told & local, path)


class Imports(unittest.TestCase):

    def test_imports_name_the_file_that_defines(self):
        defined = {f"tenanthall.{path.stem}": set(given_names(tree)) for path, tree in trees()}
        for path, tree in trees():
            for node in imports(tree):
                self.assertEqual(node.level, 0, path)
                names = {alias.name for alias in node.names}
                self.assertLessEqual(names, LIBRARY.get(node.module) or defined[node.module], path)
                self.assertTrue(all(alias.asname is None for alias in node.names), path)
                self.assertIn(node, tree.body, path)

    def test_no_two_files_import_from_each_other(self):
        ahead = {f"tenanthall.{path.stem}": {node.module for node in imports(tree)} - set(LIBRARY)
                 for path, tree in trees()}
        while ahead:
            free = [name for name, needed in ahead.items() if not needed & set(ahead)]
            self.assertTrue(free, ahead)
            for name in free:
                del ahead[name]


if __name__ == "__main__":
    unittest.main()
