"""Those rules of ../shared/LANGUAGE.md that are quickly checked: files, imports, sizes, names.

The other rules are kept by reading. The numbers are those of the rules.
"""

import ast
import os
import re
import unittest

TOP = os.path.dirname(os.path.dirname(os.path.abspath(__file__)))
PACKAGE = os.path.join(TOP, "dawkline")
LIBRARY = {
    "heapq": {"heappush", "heappop", "heapify", "heapreplace", "heappushpop"},
    "math": {"gcd", "lcm", "isqrt", "comb", "perm", "factorial"},
    "itertools": {"product", "combinations", "permutations", "chain", "accumulate", "pairwise",
                  "islice", "zip_longest"},
    "collections": {"defaultdict", "deque"},
    "__future__": {"annotations"},
}
BUILTINS = set(
    "len range enumerate zip min max sum abs sorted reversed int str bool bytes list tuple dict set"
    " frozenset isinstance ord repr any all divmod pow getattr hasattr setattr iter next map type"
    " super property staticmethod classmethod object float"
    " Exception ValueError TypeError KeyError IndexError LookupError ZeroDivisionError"
    " ArithmeticError OverflowError RuntimeError NotImplementedError AttributeError StopIteration"
    " NotImplemented".split())
OTHER_BUILTINS = set(dir(__builtins__) if not isinstance(__builtins__, dict) else __builtins__) - BUILTINS
METHODS = set(
    "append clear copy count endswith extend find get index insert isalnum isalpha isdigit islower isspace"
    " isupper items join keys ljust lower lstrip partition pop remove replace reverse rfind rjust rpartition"
    " rsplit rstrip setdefault split splitlines startswith strip update upper values zfill bit_length title"
    " capitalize swapcase casefold center expandtabs removeprefix removesuffix rindex isascii isdecimal"
    " isnumeric istitle isidentifier isprintable translate maketrans sort format __init__".split())
BARRED_WORDS = set(
    "register mro elements open input law version_info with_traceback add_note type typing enum compile"
    " copyright credits delattr dir eval exec exit gc globals help id importlib license locals os quit"
    " setattr super vars sys".split())
PLAIN_STATEMENTS = (ast.ImportFrom, ast.FunctionDef, ast.ClassDef, ast.Assign, ast.Expr)
DECORATORS = re.compile(r"property|staticmethod|classmethod|\w+\.setter")


def sources():
    """Return the pairs of file name and text of the package."""
    found = []
    for folder, _, names in os.walk(PACKAGE):
        if os.path.basename(folder) != "__pycache__":
            for name in sorted(names):
                path = os.path.join(folder, name)
                with open(path, encoding="utf-8", newline="") as file:
                    found.append((os.path.relpath(path, PACKAGE), file.read()))
    return found


def nodes(kinds):
    """Return the pairs of file name and node of these kinds."""
    return [(name, node) for name, text in sources() for node in ast.walk(ast.parse(text))
            if isinstance(node, kinds)]


def docstrings(tree):
    """Return the nodes of the docstrings of a file."""
    owners = [node for node in ast.walk(tree)
              if isinstance(node, (ast.Module, ast.ClassDef, ast.FunctionDef))]
    return [node.body[0].value for node in owners
            if node.body and isinstance(node.body[0], ast.Expr)]


class Files(unittest.TestCase):
    def test_l1_l14_the_package_holds_plain_files_only(self):
        names = [name for name, _ in sources()]
        self.assertIn("__init__.py", names)
        self.assertLessEqual(len(names), 100)
        for name in names:
            self.assertRegex(name, r"^([a-z0-9][a-z0-9_]*/)*([a-z0-9][a-z0-9_]*|__init__|__main__)\.py$")
            self.assertNotRegex(name, r"(^|/)(test|tests|testing|test_.*|law_.*|site|conftest)(\.py|/)")

    def test_l14_each_character_is_plain(self):
        for name, text in sources():
            wrong = [sign for sign in text if sign != "\n" and not " " <= sign <= "~"]
            self.assertEqual(wrong, [], name)

    def test_l10_sizes(self):
        for name, text in sources():
            lines = text.split("\n")
            self.assertLessEqual(len(lines), 400, name)
            self.assertLessEqual(max(len(line) for line in lines), 120, name)
        for name, node in nodes(ast.FunctionDef):
            self.assertLessEqual(node.end_lineno - node.lineno + 1, 40, (name, node.name))


class Statements(unittest.TestCase):
    def test_l3_module_level(self):
        for name, text in sources():
            tree = ast.parse(text)
            for at, node in enumerate(tree.body):
                self.assertIsInstance(node, PLAIN_STATEMENTS, (name, node.lineno))
                if isinstance(node, ast.Expr):
                    self.assertTrue(at == 0 and ast.get_docstring(tree), (name, node.lineno))

    def test_l2_l16_imports(self):
        for name, node in nodes((ast.Import, ast.ImportFrom)):
            place = (name, node.lineno)
            self.assertIsInstance(node, ast.ImportFrom, place)
            self.assertEqual(node.level, 0, place)
            for alias in node.names:
                if node.module in LIBRARY:
                    self.assertIn(alias.name, LIBRARY[node.module], place)
                else:
                    self.assertRegex(node.module, r"^dawkline\.[a-z0-9_]+$", place)
                    self.assertNotEqual(alias.name, "*", place)

    def test_l4_l5_decorators(self):
        for name, node in nodes((ast.FunctionDef, ast.ClassDef)):
            for decorator in node.decorator_list:
                self.assertTrue(DECORATORS.fullmatch(ast.unparse(decorator)), (name, node.lineno))

    def test_l8_l12_names(self):
        for name, node in nodes(ast.Name):
            self.assertNotIn(node.id, OTHER_BUILTINS - {"__name__"}, (name, node.lineno))
            if isinstance(node.ctx, ast.Store):
                self.assertRegex(node.id, r"^(_|_?[A-Za-z][A-Za-z0-9_]*|__slots__)$", (name, node.lineno))
                self.assertNotIn(node.id, BUILTINS, (name, node.lineno))
        for name, node in nodes(ast.arg):
            self.assertNotIn(node.arg, BUILTINS | OTHER_BUILTINS, (name, node.lineno))

    def test_l17_names_that_are_not_used(self):
        for name, node in nodes((ast.FunctionDef, ast.ClassDef)):
            self.assertNotIn(node.name, BARRED_WORDS, (name, node.lineno))
        for name, node in nodes(ast.arg):
            self.assertNotIn(node.arg, BARRED_WORDS, (name, node.lineno))
        for name, node in nodes(ast.Name):
            if isinstance(node.ctx, ast.Store):
                self.assertNotIn(node.id, BARRED_WORDS, (name, node.lineno))

    def test_l25_l26_methods_that_are_called(self):
        own = {node.name for _, node in nodes(ast.FunctionDef)}
        for name, node in nodes(ast.Call):
            if isinstance(node.func, ast.Attribute):
                self.assertIn(node.func.attr, METHODS | own, (name, node.lineno))

    def test_l18_no_name_is_a_method_and_an_attribute(self):
        for name, node in nodes(ast.ClassDef):
            methods = {part.name for part in node.body if isinstance(part, ast.FunctionDef)}
            attributes = {part.attr for part in ast.walk(node)
                          if isinstance(part, ast.Attribute) and isinstance(part.ctx, ast.Store)}
            self.assertEqual(methods & attributes, set(), (name, node.name))

    def test_l18_attributes_are_assigned_through_a_local_name(self):
        for name, node in nodes(ast.Attribute):
            if not isinstance(node.ctx, ast.Load):
                self.assertIsInstance(node.value, ast.Name, (name, node.lineno))

    def test_l15_no_local_name_is_that_of_an_import_or_a_class(self):
        for name, text in sources():
            tree = ast.parse(text)
            barred = {node.name for node in tree.body if isinstance(node, ast.ClassDef)}
            barred |= {alias.name for node in tree.body if isinstance(node, ast.ImportFrom) for alias in node.names}
            for node in ast.walk(tree):
                if isinstance(node, ast.arg):
                    self.assertNotIn(node.arg, barred, (name, node.lineno))
                if isinstance(node, ast.Name) and isinstance(node.ctx, ast.Store):
                    self.assertNotIn(node.id, barred, (name, node.lineno))

    def test_l20_is_stands_beside_none_and_truth(self):
        for name, node in nodes(ast.Compare):
            for sign, side in zip(node.ops, node.comparators):
                if isinstance(sign, (ast.Is, ast.IsNot)):
                    self.assertIn(ast.unparse(side), ("None", "True", "False"), (name, node.lineno))

    def test_l7_no_float_and_no_division(self):
        for name, node in nodes((ast.Div, ast.Constant)):
            self.assertNotIsInstance(node, ast.Div, name)
            if isinstance(node, ast.Constant):
                self.assertNotIsInstance(node.value, (float, complex), (name, node.lineno))

    def test_l27_no_percent_sign_in_a_string(self):
        for name, text in sources():
            tree = ast.parse(text)
            known = [id(node) for node in docstrings(tree)]
            for node in ast.walk(tree):
                if isinstance(node, ast.Constant) and isinstance(node.value, str):
                    self.assertTrue("%" not in node.value or id(node) in known, (name, node.lineno))


if __name__ == "__main__":
    unittest.main()
