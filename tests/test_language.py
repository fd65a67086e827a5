"""The rules of LANGUAGE.md that can be told from the code alone; what they say in full stands there."""

import ast
import builtins
import os
import re
import unittest

from exitrows import has_arithmetic, methods_of, wrong_rows

PACKAGE = os.path.join(os.path.dirname(os.path.dirname(os.path.abspath(__file__))), "openloops")
LIBRARY = {"heapq": {"heappush", "heappop", "heapify", "heapreplace", "heappushpop"},
           "math": {"gcd", "lcm", "isqrt", "comb", "perm", "factorial"},
           "itertools": {"product", "combinations", "permutations", "chain", "accumulate", "pairwise", "islice",
                         "zip_longest"},
           "collections": {"defaultdict", "deque"}}
BUILTINS = set("""len range enumerate zip min max sum abs sorted reversed int str bool bytes list tuple dict set frozenset
isinstance ord repr any all divmod pow getattr hasattr setattr map iter next type super property staticmethod classmethod
Exception ValueError TypeError KeyError IndexError LookupError ZeroDivisionError ArithmeticError OverflowError
RuntimeError NotImplementedError AttributeError StopIteration NotImplemented True False None""".split())
METHODS = set("""append clear copy count endswith extend find get index insert isalnum isalpha isdigit islower isspace
isupper items join keys ljust lower lstrip partition pop remove replace reverse rfind rjust rpartition rsplit rstrip
setdefault split splitlines startswith strip update upper values zfill bit_length title capitalize swapcase casefold
center expandtabs removeprefix removesuffix rindex isascii isdecimal isnumeric istitle isidentifier isprintable
translate sort add discard appendleft popleft extendleft rotate format""".split())
DOUBLE = set("""init eq repr str len enter exit call iter lt le gt ge ne add sub mul floordiv mod pow and or xor lshift
rshift neg pos invert abs bool contains getitem setitem""".split())
NOWHERE = set("""register mro elements open input law version_info with_traceback add_note attrgetter breakpoint builtins
compile copyright credits delattr dir eval exec exit gc globals help id importlib license locals methodcaller os quit
vars sys""".split())
FORBIDDEN = (ast.AsyncFunctionDef, ast.AsyncFor, ast.AsyncWith, ast.Await, ast.Global, ast.Import, ast.Div)


def source_of(name):
    with open(os.path.join(PACKAGE, name), encoding="utf-8") as file:
        return file.read()


FILES = sorted(name for name in os.listdir(PACKAGE) if name != "__pycache__")
SOURCES = {name: source_of(name) for name in FILES}
TREES = {name: ast.parse(source) for name, source in SOURCES.items()}


def nodes(name, kind):
    return [node for node in ast.walk(TREES[name]) if isinstance(node, kind)]


def all_nodes(kind):
    return [node for name in FILES for node in nodes(name, kind)]


def own_names(tree):
    """Return the names that a file defines at module level."""
    found = []
    for node in tree.body:
        if isinstance(node, (ast.FunctionDef, ast.ClassDef)):
            found.append(node.name)
        if isinstance(node, ast.Assign):
            found += [target.id for target in node.targets]
    return found


def bound_names(tree):
    """Return the names that functions bind: parameters, variables, nested functions."""
    names = [node.arg for node in ast.walk(tree) if isinstance(node, ast.arg)]
    names += [node.id for node in ast.walk(tree) if isinstance(node, ast.Name) and not isinstance(node.ctx, ast.Load)]
    return names


class Files(unittest.TestCase):
    def test_files_and_characters(self):
        for name in FILES:
            self.assertRegex(name, r"^[a-z_][a-z0-9_]*\.py$")
            self.assertNotIn(name[:-3], dir(builtins))
            self.assertRegex(SOURCES[name], r"^[ -~\n]*$", name)
        self.assertIn("__init__.py", FILES)

    def test_sizes(self):
        for name in FILES:
            lines = SOURCES[name].split("\n")
            self.assertLessEqual(len(lines), 399, name)
            self.assertLessEqual(max(map(len, lines)), 120, name)
            for node in nodes(name, (ast.FunctionDef, ast.Lambda)):
                self.assertLessEqual(node.end_lineno - node.lineno + 1, 40, name)

    def test_module_level(self):
        for name, tree in TREES.items():
            for at, node in enumerate(tree.body):
                docstring = at == 0 and isinstance(node, ast.Expr) and isinstance(node.value, ast.Constant)
                self.assertTrue(docstring or isinstance(node, (ast.ImportFrom, ast.FunctionDef, ast.ClassDef, ast.Assign)),
                                (name, node.lineno))

    def test_imports(self):
        for name, tree in TREES.items():
            for node in [node for node in ast.walk(tree) if isinstance(node, ast.ImportFrom)]:
                self.assertEqual(node.level, 0)
                for alias in node.names:
                    self.assertIsNone(alias.asname, name)
                    if node.module.startswith("openloops."):
                        self.assertIn(alias.name, own_names(TREES[node.module[10:] + ".py"]), name)
                    else:
                        self.assertIn(alias.name, LIBRARY[node.module], name)

    def test_no_two_files_import_from_each_other(self):
        imports = {name: [node.module[10:] + ".py" for node in nodes(name, ast.ImportFrom)
                          if node.module.startswith("openloops.")] for name in FILES}
        done = []
        while len(done) < len(FILES):
            ready = [name for name in FILES if name not in done and all(other in done for other in imports[name])]
            self.assertNotEqual(ready, [], "a circle of imports")
            done += ready

    def test_no_import_is_left_unused(self):
        for name, tree in TREES.items():
            used = {node.id for node in ast.walk(tree) if isinstance(node, ast.Name)}
            for node in nodes(name, ast.ImportFrom):
                for alias in node.names:
                    self.assertIn(alias.name, used, name)


class Names(unittest.TestCase):
    def test_each_name_is_bound_once_at_module_level(self):
        for name, tree in TREES.items():
            names = own_names(tree) + [alias.name for node in nodes(name, ast.ImportFrom) for alias in node.names]
            self.assertEqual(sorted(names), sorted(set(names)), name)

    def test_no_variable_has_the_name_of_an_import_a_class_or_a_builtin(self):
        for name, tree in TREES.items():
            taken = {alias.name for node in nodes(name, ast.ImportFrom) for alias in node.names}
            taken |= {node.name for node in tree.body if isinstance(node, ast.ClassDef)} | set(dir(builtins)) | NOWHERE
            self.assertEqual([bound for bound in bound_names(tree) if bound in taken], [], name)

    def test_plain_names(self):
        for name, tree in TREES.items():
            for bound in bound_names(tree) + own_names(tree):
                self.assertRegex(bound, r"^(_|_?[A-Za-z][A-Za-z0-9_]*)$", name)
            for function in nodes(name, ast.FunctionDef):
                inner = re.fullmatch("__(.*)__", function.name)
                self.assertTrue(inner is None or inner.group(1) in DOUBLE, function.name)

    def test_builtins(self):
        for name, tree in TREES.items():
            for node in nodes(name, ast.Name):
                if node.id in dir(builtins):
                    self.assertIn(node.id, BUILTINS, (name, node.lineno))

    def test_methods(self):
        own = {node.name for node in all_nodes(ast.FunctionDef)}
        for node in all_nodes(ast.Attribute):
            if isinstance(node.ctx, ast.Load):
                self.assertTrue(node.attr in METHODS or node.attr in own or node.attr.startswith("_"), node.attr)


    def test_generators_and_properties_have_names_of_their_own(self):
        names = [node.name for node in all_nodes(ast.FunctionDef)]
        attributes = {node.attr for node in all_nodes(ast.Attribute) if isinstance(node.ctx, ast.Store)}
        for node in all_nodes(ast.FunctionDef):
            yields = any(isinstance(inner, (ast.Yield, ast.YieldFrom)) for inner in ast.walk(node))
            decorators = [ast.unparse(decorator) for decorator in node.decorator_list]
            if yields or "property" in decorators:
                self.assertEqual(names.count(node.name), 1, node.name)
                self.assertNotIn(node.name, attributes)

    def test_no_name_is_a_method_and_an_attribute(self):
        methods = {part.name for node in all_nodes(ast.ClassDef) for part in node.body if isinstance(part, ast.FunctionDef)}
        for node in all_nodes(ast.Attribute):
            if isinstance(node.ctx, ast.Store):
                self.assertNotIn(node.attr, methods)
                self.assertIsInstance(node.value, ast.Name)

    def test_functions_in_tables_are_called_by_a_name(self):
        for node in all_nodes(ast.Call):
            self.assertIsInstance(node.func, (ast.Name, ast.Attribute), ast.unparse(node))


class Statements(unittest.TestCase):
    def test_forbidden_statements_and_signs(self):
        for name in FILES:
            self.assertEqual([node.lineno for node in nodes(name, FORBIDDEN)], [], name)
            for node in nodes(name, ast.Constant):
                self.assertNotIsInstance(node.value, (float, complex), name)

    def test_decorators(self):
        for node in all_nodes((ast.FunctionDef, ast.ClassDef)):
            for decorator in node.decorator_list:
                self.assertIn(ast.unparse(decorator), ["property", "staticmethod", "classmethod"])

    def test_is_stands_with_none(self):
        for node in all_nodes(ast.Compare):
            if any(isinstance(sign, (ast.Is, ast.IsNot)) for sign in node.ops):
                self.assertIn(ast.unparse(node.comparators[0]), ["None", "True", "False"])

    def test_any_all_and_the_like_take_lists(self):
        for node in all_nodes(ast.Call):
            if isinstance(node.func, ast.Name) and node.func.id in ["any", "all", "min", "max", "sum", "sorted"]:
                self.assertNotIsInstance(node.args[0], ast.GeneratorExp, ast.unparse(node))

    def test_no_percent_sign_and_no_odd_escape_in_strings(self):
        for name in FILES:
            for node in nodes(name, ast.Constant):
                if isinstance(node.value, str):
                    self.assertNotIn("%", node.value, name)

    def test_errors_are_made_where_they_are_raised(self):
        for node in all_nodes(ast.Raise):
            self.assertTrue(isinstance(node.exc, ast.Call) and isinstance(node.exc.func, ast.Name), node.lineno)

    def test_equal_objects_have_no_hash_of_their_own(self):
        for node in all_nodes(ast.ClassDef):
            self.assertNotIn("__hash__", [part.name for part in node.body if isinstance(part, ast.FunctionDef)])


def exit_of(rows, parameters="self, kind, value, trace"):
    """Return a method `__exit__` with these rows, the first of which stands in line 3."""
    inner = "".join([f"        {row}\n" for row in rows.split("\n")])
    return methods_of(ast.parse(f"class Box:\n    def __exit__({parameters}):\n{inner}"), "__exit__")[0]


class Exits(unittest.TestCase):
    """Rule L6 With: the rows of `__exit__`, where nothing is asked but whether something is None."""

    GOOD = ["pass", "return", "return None", "return False", "net = self.net", "net = self.net\nnet.now = 0",
            "net = self.net\nnet.rows = self.rows\nself.last = net", "self.word = 'done'", "self.word = b'x'",
            "self.now = None", "self.now = self.net.now", "self.rows = []", "self.pair = (self.low, [0, None], True)",
            "self.now += 1", "self.now -= 2", "net = self.net\nnet.now += 1", "self.rows.append(self.now)",
            "self.rows.append((1, self.now))", "net = self.net\nnet.rows.append(1)", "rows = self.rows\nrows.append(1)",
            "self.net.rows.clear()", "if kind is None:\n    self.now = 0",
            "if kind is not None and not self.now is None:\n    return False",
            "net = self.net\nif net is None or net.now is not None:\n    pass\nelif self.now is None:\n    return\n"
            "else:\n    net.now = 0", "'''Say what it does.'''\nself.now = 0"]
    SUMS = ["self.now = self.now + 1", "self.rows = self.rows + [1]", "self.now = self.now - 1",
            "self.rows.append(self.now + self.next)"]
    BAD_TESTS = ["self.kept", "not self.kept", "net", "not net", "kind", "not kind", "value is None", "trace is not None",
                 "self.kept == 1", "self.kept != None", "0 < self.now", "self.now >= 1", "self.kept is True",
                 "self.kept is not False", "self is None", "kind == None", "kind is net", "None is kind", "True", "1",
                 "len(self.rows)", "self.rows.count(1)", "self.is_kept()", "self.rows[0] is None", "1 in self.rows",
                 "self.now is None is None", "self.now is None and self.kept", "self.now is None or kind",
                 "not (self.now is None and not self.kept)", "(now := self.now) is None", "WORD is None", "-self.now"]
    BAD_ROWS = ["return True", "return self.kept", "return kind", "return 0", "return 'x'", "return not self.kept", "now = 0",
                "net = self", "net = self.net.low", "net = other.net", "net = self.net\nnet = self.net", "kind = self.kind",
                "net = low = self.net", "self.now = self.next = 0", "self.now, self.next = 0, 1", "self.rows[0] = 1",
                "self.kind = kind", "self.kind = value", "self.told = trace", "self.me = self", "self.now = -1",
                "self.now = WORD", "self.now = 0.5", "self.now = {}", "self.now = {1}", "self.now = [*self.rows]",
                "self.now = not self.kept", "self.now = self.low or self.high", "self.now = self.kept is None",
                "self.now = 1 if self.kept else 0", "self.now = self.rows[0]", "self.now = len(self.rows)",
                "self.now = [now for now in self.rows]", "self.now = lambda: 0", "self.now = f'{self.low}'",
                "self.now = self.low * 2", "self.now = self.low - self.high", "self.now += self.low", "self.now += True",
                "self.now -= -1", "self.now *= 2", "self.net.now = 0", "self.net.now += 1", "self.now: int = 0",
                "self.rows.pop()", "self.rows.append()", "self.rows.append(1, 2)", "self.rows.append(kind)",
                "self.rows.append(-1)", "self.rows.append(item=1)", "self.rows.clear(1)", "self.rows[0].append(1)",
                "rows.append(1)", "kind.append(1)", "print(kind)", "self.undo()", "self.shop.undo()", "1", "self.now",
                "raise ValueError(kind)", "del self.rows", "assert self.kept", "for row in self.rows:\n    pass",
                "while self.kept:\n    pass", "with self.other:\n    pass", "try:\n    pass\nfinally:\n    pass",
                "def low():\n    pass", "match kind:\n    case _:\n        pass", "self.now = (yield)"]

    def test_each_exit_of_the_package(self):
        arithmetic = has_arithmetic(TREES.values())
        exits = [(name, method) for name in FILES for method in methods_of(TREES[name], "__exit__")]
        self.assertIn("workshop.py", [name for name, _ in exits])
        self.assertEqual(len([node for node in all_nodes(ast.FunctionDef) if node.name == "__exit__"]), len(exits))
        for name, method in exits:
            self.assertEqual(wrong_rows(method, arithmetic), [], name)

    def test_each_class_with_an_exit_is_entered_and_is_no_error(self):
        errors = set(dir(builtins)) | set(own_names(TREES["errors.py"]))
        for node in all_nodes(ast.ClassDef):
            ways = {part.name: part for part in node.body if isinstance(part, ast.FunctionDef)}
            self.assertEqual("__exit__" in ways, "__enter__" in ways, node.name)
            if "__exit__" in ways:
                self.assertEqual(ast.unparse(ways["__enter__"].args), "self")
                self.assertFalse(errors & {ast.unparse(base) for base in node.bases}, node.name)

    def test_rows_that_have_the_form(self):
        for rows in self.GOOD:
            self.assertEqual(wrong_rows(exit_of(rows)), [], rows)
        for rows in self.SUMS:
            self.assertEqual([wrong_rows(exit_of(rows)), wrong_rows(exit_of(rows), False)], [[3], []], rows)
        self.assertEqual(wrong_rows(exit_of("self.now = 0", "self, *told")), [])
        self.assertEqual(wrong_rows(exit_of("self.now = 0", "me, one, two, three")), [3])
        self.assertEqual(wrong_rows(exit_of("if one is None:\n    me.now = 0", "me, one, two, three")), [])

    def test_rows_that_have_not(self):
        for rows in self.BAD_ROWS:
            inner = rows.replace("\n", "\n    ")
            self.assertNotEqual(wrong_rows(exit_of(rows), False), [], rows)
            self.assertNotEqual(wrong_rows(exit_of(f"if kind is None:\n    pass\nelse:\n    {inner}"), False), [], rows)

    def test_what_is_asked(self):
        for test in self.BAD_TESTS:
            rows = f"net = self.net\nif {test}:\n    net.now = 0"
            self.assertEqual(wrong_rows(exit_of(rows), False), [4], test)
            rows = f"net = self.net\nif kind is None:\n    pass\nelif {test}:\n    pass"
            self.assertEqual(wrong_rows(exit_of(rows), False), [6], test)
        rows = "shop = self._shop\nif not self._kept:\n    shop._state = self._before"
        self.assertEqual(wrong_rows(exit_of(rows)), [4])
        self.assertEqual(wrong_rows(exit_of(rows.replace("not self._kept", "self._before is not None"))), [])

    def test_what_it_is_handed(self):
        self.assertEqual(wrong_rows(exit_of("if told is None:\n    pass", "self, *told")), [3])
        for parameters in ["self", "self, kind", "self, kind, value, trace, more", "self, kind, value, trace=None",
                           "self, *told, more", "self, **told", "*told", "self, kind, value, /, trace"]:
            self.assertEqual(wrong_rows(exit_of("pass", parameters), False), [2], parameters)


if __name__ == "__main__":
    unittest.main()
