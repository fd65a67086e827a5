"""The rules of LANGUAGE.md that can be told from the code alone; what they say in full stands there."""

import ast
import builtins
import os
import re
import unittest

PACKAGE = os.path.join(os.path.dirname(os.path.dirname(os.path.abspath(__file__))), "openloops")
LIBRARY = {"heapq": {"heappush", "heappop", "heapify", "heapreplace", "heappushpop"},
           "math": {"gcd", "lcm", "isqrt", "comb", "perm", "factorial"},
           "itertools": {"product", "combinations", "permutations", "chain", "accumulate", "pairwise", "islice",
                         "zip_longest"},
           "collections": {"defaultdict", "deque"}}
BUILTINS = set("""len range enumerate zip min max sum abs sorted reversed int str bool bytes list tuple dict set frozenset
isinstance ord repr any all divmod pow getattr hasattr setattr map iter next type super property staticmethod classmethod
Exception ValueError TypeError KeyError IndexError LookupError ZeroDivisionError ArithmeticError OverflowError
RuntimeError NotImplementedError AttributeError StopIteration NotImplemented True False None""".split())
METHODS = set("""append clear copy count endswith extend find get index insert isalnum isalpha isdigit islower isspace
isupper items join keys ljust lower lstrip partition pop remove replace reverse rfind rjust rpartition rsplit rstrip
setdefault split splitlines startswith strip update upper values zfill bit_length title capitalize swapcase casefold
center expandtabs removeprefix removesuffix rindex isascii isdecimal isnumeric istitle isidentifier isprintable
translate sort add discard appendleft popleft extendleft rotate format""".split())
DOUBLE = set("""init eq repr str len enter exit call iter lt le gt ge ne add sub mul floordiv mod pow and or xor lshift
rshift neg pos invert abs bool contains getitem setitem""".split())
NOWHERE = set("""register mro elements open input law version_info with_traceback add_note attrgetter breakpoint builtins
compile copyright credits delattr dir eval exec exit gc globals help id importlib license locals methodcaller os quit
vars sys""".split())
FORBIDDEN = (ast.AsyncFunctionDef, ast.AsyncFor, ast.AsyncWith, ast.Await, ast.Global, ast.Import, ast.Div)


def source_of(name):
    with open(os.path.join(PACKAGE, name), encoding="utf-8") as file:
        return file.read()


FILES = sorted(name for name in os.listdir(PACKAGE) if name != "__pycache__")
SOURCES = {name: source_of(name) for name in FILES}
TREES = {name: ast.parse(source) for name, source in SOURCES.items()}


def nodes(name, kind):
    return [node for node in ast.walk(TREES[name]) if isinstance(node, kind)]


def all_nodes(kind):
    return [node for name in FILES for node in nodes(name, kind)]


def own_names(tree):
    """Return the names that a file defines at module level."""
    found = []
    for node in tree.body:
        if isinstance(node, (ast.FunctionDef, ast.ClassDef)):
            found.append(node.name)
        if isinstance(node, ast.Assign):
            found += [target.id for target in node.targets]
    return found


def bound_names(tree):
    """Return the names that functions bind: parameters, variables, nested functions."""
    names = [node.arg for node in ast.walk(tree) if isinstance(node, ast.arg)]
    names += [node.id for node in ast.walk(tree) if isinstance(node, ast.Name) and not isinstance(node.ctx, ast.Load)]
    return names


class Files(unittest.TestCase):
    def test_files_and_characters(self):
        for name in FILES:
            self.assertRegex(name, r"^[a-z_][a-z0-9_]*\.py$")
            self.assertNotIn(name[:-3], dir(builtins))
            self.assertRegex(SOURCES[name], r"^[ -~\n]*$", name)
        self.assertIn("__init__.py", FILES)

    def test_sizes(self):
        for name in FILES:
            lines = SOURCES[name].split("\n")
            self.assertLessEqual(len(lines), 399, name)
            self.assertLessEqual(max(map(len, lines)), 120, name)
            for node in nodes(name, (ast.FunctionDef, ast.Lambda)):
                self.assertLessEqual(node.end_lineno - node.lineno + 1, 40, name)

    def test_module_level(self):
        for name, tree in TREES.items():
            for at, node in enumerate(tree.body):
                docstring = at == 0 and isinstance(node, ast.Expr) and isinstance(node.value, ast.Constant)
                self.assertTrue(docstring or isinstance(node, (ast.ImportFrom, ast.FunctionDef, ast.ClassDef, ast.Assign)),
                                (name, node.lineno))

    def test_imports(self):
        for name, tree in TREES.items():
            for node in [node for node in ast.walk(tree) if isinstance(node, ast.ImportFrom)]:
                self.assertEqual(node.level, 0)
                for alias in node.names:
                    self.assertIsNone(alias.asname, name)
                    if node.module.startswith("openloops."):
                        self.assertIn(alias.name, own_names(TREES[node.module[10:] + ".py"]), name)
                    else:
                        self.assertIn(alias.name, LIBRARY[node.module], name)

    def test_no_two_files_import_from_each_other(self):
        imports = {name: [node.module[10:] + ".py" for node in nodes(name, ast.ImportFrom)
                          if node.module.startswith("openloops.")] for name in FILES}
        done = []
        while len(done) < len(FILES):
            ready = [name for name in FILES if name not in done and all(other in done for other in imports[name])]
            self.assertNotEqual(ready, [], "a circle of imports")
            done += ready

    def test_no_import_is_left_unused(self):
        for name, tree in TREES.items():
            used = {node.id for node in ast.walk(tree) if isinstance(node, ast.Name)}
            for node in nodes(name, ast.ImportFrom):
                for alias in node.names:
                    self.assertIn(alias.name, used, name)


class Names(unittest.TestCase):
    def test_each_name_is_bound_once_at_module_level(self):
        for name, tree in TREES.items():
            names = own_names(tree) + [alias.name for node in nodes(name, ast.ImportFrom) for alias in node.names]
            self.assertEqual(sorted(names), sorted(set(names)), name)

    def test_no_variable_has_the_name_of_an_import_a_class_or_a_builtin(self):
        for name, tree in TREES.items():
            taken = {alias.name for node in nodes(name, ast.ImportFrom) for alias in node.names}
            taken |= {node.name for node in tree.body if isinstance(node, ast.ClassDef)} | set(dir(builtins)) | NOWHERE
            self.assertEqual([bound for bound in bound_names(tree) if bound in taken], [], name)

    def test_plain_names(self):
        for name, tree in TREES.items():
            for bound in bound_names(tree) + own_names(tree):
                self.assertRegex(bound, r"^(_|_?[A-Za-z][A-Za-z0-9_]*)$", name)
            for function in nodes(name, ast.FunctionDef):
                inner = re.fullmatch("__(.*)__", function.name)
                self.assertTrue(inner is None or inner.group(1) in DOUBLE, function.name)

    def test_builtins(self):
        for name, tree in TREES.items():
            for node in nodes(name, ast.Name):
                if node.id in dir(builtins):
                    self.assertIn(node.id, BUILTINS, (name, node.lineno))

    def test_methods(self):
        own = {node.name for node in all_nodes(ast.FunctionDef)}
        for node in all_nodes(ast.Attribute):
            if isinstance(node.ctx, ast.Load):
                self.assertTrue(node.attr in METHODS or node.attr in own or node.attr.startswith("_"), node.attr)


    def test_generators_and_properties_have_names_of_their_own(self):
        names = [node.name for node in all_nodes(ast.FunctionDef)]
        attributes = {node.attr for node in all_nodes(ast.Attribute) if isinstance(node.ctx, ast.Store)}
        for node in all_nodes(ast.FunctionDef):
            yields = any(isinstance(inner, (ast.Yield, ast.YieldFrom)) for inner in ast.walk(node))
            decorators = [ast.unparse(decorator) for decorator in node.decorator_list]
            if yields or "property" in decorators:
                self.assertEqual(names.count(node.name), 1, node.name)
                self.assertNotIn(node.name, attributes)

    def test_no_name_is_a_method_and_an_attribute(self):
        methods = {part.name for node in all_nodes(ast.ClassDef) for part in node.body if isinstance(part, ast.FunctionDef)}
        for node in all_nodes(ast.Attribute):
            if isinstance(node.ctx, ast.Store):
                self.assertNotIn(node.attr, methods)
                self.assertIsInstance(node.value, ast.Name)

    def test_functions_in_tables_are_called_by_a_name(self):
        for node in all_nodes(ast.Call):
            self.assertIsInstance(node.func, (ast.Name, ast.Attribute), ast.unparse(node))


class Statements(unittest.TestCase):
    def test_forbidden_statements_and_signs(self):
        for name in FILES:
            self.assertEqual([node.lineno for node in nodes(name, FORBIDDEN)], [], name)
            for node in nodes(name, ast.Constant):
                self.assertNotIsInstance(node.value, (float, complex), name)

    def test_decorators(self):
        for node in all_nodes((ast.FunctionDef, ast.ClassDef)):
            for decorator in node.decorator_list:
                self.assertIn(ast.unparse(decorator), ["property", "staticmethod", "classmethod"])

    def test_is_stands_with_none(self):
        for node in all_nodes(ast.Compare):
            if any(isinstance(sign, (ast.Is, ast.IsNot)) for sign in node.ops):
                self.assertIn(ast.unparse(node.comparators[0]), ["None", "True", "False"])

    def test_any_all_and_the_like_take_lists(self):
        for node in all_nodes(ast.Call):
            if isinstance(node.func, ast.Name) and node.func.id in ["any", "all", "min", "max", "sum", "sorted"]:
                self.assertNotIsInstance(node.args[0], ast.GeneratorExp, ast.unparse(node))

    def test_no_percent_sign_and_no_odd_escape_in_strings(self):
        for name in FILES:
            for node in nodes(name, ast.Constant):
                if isinstance(node.value, str):
                    self.assertNotIn("%", node.value, name)

    def test_errors_are_made_where_they_are_raised(self):
        for node in all_nodes(ast.Raise):
            self.assertTrue(isinstance(node.exc, ast.Call) and isinstance(node.exc.func, ast.Name), node.lineno)

    def test_equal_objects_have_no_hash_of_their_own(self):
        for node in all_nodes(ast.ClassDef):
            self.assertNotIn("__hash__", [part.name for part in node.body if isinstance(part, ast.FunctionDef)])


if __name__ == "__main__":
    unittest.main()
