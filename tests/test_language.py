"""What of shared/LANGUAGE.md can be seen in the files of the package by plain means."""

import ast
import builtins
import os
import re
import tokenize
import unittest

ROOT = os.path.join(os.path.dirname(os.path.abspath(__file__)), "..", "seatroads")
LIBRARY = {"heapq": {"heappush", "heappop", "heapify", "heapreplace", "heappushpop"},
           "math": {"gcd", "lcm", "isqrt", "comb", "perm", "factorial"},
           "itertools": {"product", "combinations", "permutations"}}
ALLOWED_BUILTINS = set("""len range enumerate zip min max sum abs sorted reversed int str bool bytes list tuple dict set
frozenset isinstance ord repr any all divmod Exception ValueError TypeError KeyError IndexError LookupError
ZeroDivisionError ArithmeticError OverflowError RuntimeError NotImplementedError AttributeError StopIteration
NotImplemented iter next map super property staticmethod classmethod""".split())
ALLOWED_METHODS = set("""append clear copy count endswith extend find get index insert isalnum isalpha isdigit islower
isspace isupper items join keys ljust lower lstrip partition pop remove replace reverse rfind rjust rpartition rsplit
rstrip setdefault split splitlines startswith strip update upper values zfill bit_length add discard""".split())
SPECIAL = {"__init__", "__eq__", "__len__", "__contains__"}
BARRED_WORDS = set("""type typing typing_extensions enum Enum IntEnum StrEnum Flag IntFlag Generic Protocol ABC ABCMeta
namedtuple NamedTuple TypedDict TYPE_CHECKING abstractmethod""".split())
BARRED_NODES = (ast.Global, ast.AsyncFunctionDef, ast.Await, ast.AsyncFor, ast.AsyncWith, ast.Div, ast.MatMult,
                ast.GeneratorExp)


def files():
    return sorted(os.listdir(ROOT))


def modules():
    return [name[:-3] for name in files() if name.endswith(".py")]


def text_of(name):
    with open(os.path.join(ROOT, name + ".py"), encoding="utf-8") as file:
        return file.read()


def tree_of(name):
    return ast.parse(text_of(name))


def nodes(name):
    return list(ast.walk(tree_of(name)))


def functions(name):
    return [node for node in nodes(name) if isinstance(node, ast.FunctionDef)]


def imported(name):
    """The pairs of module and names that a file imports."""
    return [(node.module, [alias.name for alias in node.names])
            for node in nodes(name) if isinstance(node, ast.ImportFrom)]


def bound_names(name):
    """All names that parameters, assignments, loops, functions and classes of a file bind."""
    found = []
    for node in nodes(name):
        if isinstance(node, ast.arg):
            found.append(node.arg)
        if isinstance(node, ast.Name) and isinstance(node.ctx, ast.Store):
            found.append(node.id)
    for node in tree_of(name).body:
        if isinstance(node, (ast.FunctionDef, ast.ClassDef)):
            found.append(node.name)
    return found


class FilesTest(unittest.TestCase):

    def test_files(self):
        for name in files():
            if name != "__pycache__":
                self.assertTrue(re.fullmatch(r"[a-z][a-z0-9_]*\.py|__init__\.py", name), name)

    def test_sizes_and_signs(self):
        for name in modules():
            text = text_of(name)
            self.assertTrue(all(sign == "\n" or " " <= sign <= "~" for sign in text), name)
            lines = text.split("\n")
            self.assertLessEqual(len(lines), 399, name)
            self.assertLessEqual(max(len(line) for line in lines), 120, name)
            for node in functions(name):
                self.assertLessEqual(node.end_lineno - node.lineno + 1, 40, (name, node.name))

    def test_barred_words(self):
        for name in modules():
            with open(os.path.join(ROOT, name + ".py"), "rb") as file:
                for token in tokenize.tokenize(file.readline):
                    if token.type == tokenize.NAME:
                        self.assertNotIn(token.string, BARRED_WORDS, name)

    def test_no_percent_signs_in_strings(self):
        for name in modules():
            for node in nodes(name):
                if isinstance(node, ast.Constant) and isinstance(node.value, str):
                    self.assertNotIn("%", node.value, name)
                self.assertFalse(isinstance(node, ast.Constant) and isinstance(node.value, (float, complex)), name)


class ImportsTest(unittest.TestCase):

    def test_only_from_the_package_and_the_named_library(self):
        for name in modules():
            self.assertFalse([node for node in nodes(name) if isinstance(node, ast.Import)], name)
            for module, names in imported(name):
                if module in LIBRARY:
                    self.assertLessEqual(set(names), LIBRARY[module])
                else:
                    self.assertTrue(module.startswith("seatroads."), module)
                    self.assertIn(module.split(".")[1], modules())

    def test_from_the_very_file_that_defines_the_name(self):
        for name in modules():
            for module, names in imported(name):
                if module not in LIBRARY:
                    body = tree_of(module.split(".")[1]).body
                    defined = {node.name for node in body if isinstance(node, (ast.FunctionDef, ast.ClassDef))}
                    defined |= {node.targets[0].id for node in body if isinstance(node, ast.Assign)}
                    self.assertLessEqual(set(names), defined, (name, module))

    def test_all_imports_are_used_and_stand_at_the_top(self):
        for name in modules():
            used = {node.id for node in nodes(name) if isinstance(node, ast.Name)}
            for _, names in imported(name):
                self.assertLessEqual(set(names), used, name)
            body = [node for node in tree_of(name).body if not isinstance(node, ast.Expr)]
            kinds = [isinstance(node, ast.ImportFrom) for node in body]
            self.assertEqual(kinds, sorted(kinds, reverse=True), name)

    def test_no_rings_of_imports(self):
        ahead = {name: {module.split(".")[1] for module, _ in imported(name) if module not in LIBRARY}
                 for name in modules()}
        while ahead:
            free = [name for name in ahead if not ahead[name] & set(ahead)]
            self.assertTrue(free, ahead)
            for name in free:
                del ahead[name]


class StatementsTest(unittest.TestCase):

    def test_nothing_that_is_not_used_here(self):
        for name in modules():
            for node in nodes(name):
                self.assertNotIsInstance(node, BARRED_NODES, (name, getattr(node, "lineno", 0)))
                if isinstance(node, (ast.FunctionDef, ast.ClassDef)):
                    self.assertEqual(node.decorator_list, [], name)
                if isinstance(node, ast.FunctionDef):
                    self.assertTrue(node.returns is None and all(arg.annotation is None for arg in node.args.args))

    def test_module_level(self):
        for name in modules():
            for node in tree_of(name).body:
                is_text = isinstance(node, ast.Expr) and isinstance(node.value, ast.Constant)
                allowed = (ast.ImportFrom, ast.FunctionDef, ast.ClassDef, ast.Assign)
                self.assertTrue(is_text or isinstance(node, allowed), (name, node.lineno))

    def test_is_with_none_alone(self):
        for name in modules():
            for node in nodes(name):
                if isinstance(node, ast.Compare):
                    for sign, right in zip(node.ops, node.comparators):
                        if isinstance(sign, (ast.Is, ast.IsNot)):
                            self.assertIsInstance(right, ast.Constant)

    def test_caught_errors_are_named(self):
        for name in modules():
            for node in nodes(name):
                if isinstance(node, ast.ExceptHandler):
                    self.assertIsInstance(node.type, ast.Name)
                    self.assertTrue(node.type.id.startswith(("Bad", "No")), node.type.id)
                if isinstance(node, ast.Raise) and node.exc is not None:
                    self.assertIsInstance(node.exc, ast.Call)
                    self.assertIsInstance(node.exc.func, ast.Name)


class NamesTest(unittest.TestCase):

    def test_no_name_is_that_of_a_builtin(self):
        for name in modules():
            for bound in bound_names(name):
                self.assertNotIn(bound, dir(builtins), name)

    def test_no_name_is_that_of_an_import_or_a_class(self):
        for name in modules():
            taken = {one for _, names in imported(name) for one in names}
            taken |= {node.name for node in tree_of(name).body if isinstance(node, ast.ClassDef)}
            own = {node.name for node in tree_of(name).body if isinstance(node, ast.ClassDef)}
            for bound in bound_names(name):
                self.assertTrue(bound not in taken or bound in own, (name, bound))

    def test_builtins_that_are_used(self):
        for name in modules():
            for node in nodes(name):
                if isinstance(node, ast.Name) and node.id in dir(builtins):
                    self.assertIn(node.id, ALLOWED_BUILTINS, name)

    def test_methods_that_are_called(self):
        own = {node.name for name in modules() for node in functions(name)}
        for name in modules():
            for node in nodes(name):
                if isinstance(node, ast.Call) and isinstance(node.func, ast.Attribute):
                    self.assertTrue(node.func.attr in own | ALLOWED_METHODS, (name, node.func.attr))

    def test_double_underscore_methods(self):
        for name in modules():
            for node in functions(name):
                if node.name.startswith("__"):
                    self.assertIn(node.name, SPECIAL, name)

    def test_no_name_is_a_method_and_an_attribute(self):
        methods, attributes = set(), set()
        for name in modules():
            for node in nodes(name):
                if isinstance(node, ast.ClassDef):
                    methods |= {row.name for row in node.body if isinstance(row, ast.FunctionDef)}
                if isinstance(node, ast.Attribute) and isinstance(node.ctx, ast.Store):
                    attributes.add(node.attr)
        self.assertEqual(methods & attributes, set())


if __name__ == "__main__":
    unittest.main()
