"""Rule L6 With: which rows of a method `__exit__` have none of the forms that a row there may have.

Classes of the package have `__eq__`, so nothing is asked there but whether something is None. In a package with
arithmetic methods neither + nor - stands there (rule L5 Operators).
"""

import ast

ARITHMETIC = {f"__{side}{sign}__" for side in ["", "r", "i"] for sign in
              ["add", "sub", "mul", "floordiv", "mod", "pow", "and", "or", "xor", "lshift", "rshift"]}
ARITHMETIC |= {"__neg__", "__pos__", "__invert__", "__abs__"}


def methods_of(tree, name):
    """Return the methods with a name in the classes of a file."""
    return [part for node in ast.walk(tree) if isinstance(node, ast.ClassDef) for part in node.body
            if isinstance(part, ast.FunctionDef) and part.name == name]


def has_arithmetic(trees):
    """Tell whether a class of a package has an arithmetic method."""
    return any(methods_of(tree, name) for tree in trees for name in ARITHMETIC)


def wrong_rows(method, arithmetic=True):
    """Return the numbers of the rows of `__exit__` with a form that no row there may have."""
    names = [argument.arg for argument in method.args.args]
    if not has_parameters(method.args):
        return [method.lineno]
    rows = method.body[1:] if ast.get_docstring(method) is not None else method.body
    return Form(names, rows, arithmetic).wrong(rows)


def has_parameters(arguments):
    """Tell whether parameters are (self, kind, value, trace) or (self, *told)."""
    if arguments.posonlyargs or arguments.kwonlyargs or arguments.kwarg or arguments.defaults:
        return False
    return len(arguments.args) == (4 if arguments.vararg is None else 1)


class Form:
    """The forms of the rows in an `__exit__` with these parameters."""

    def __init__(self, names, rows, arithmetic):
        self.me, self.kind = names[0], names[1] if len(names) == 4 else None
        self.arithmetic = arithmetic
        given = [node.id for row in rows for node in ast.walk(row)
                 if isinstance(node, ast.Name) and isinstance(node.ctx, ast.Store)]
        self.held = {name for name in given if given.count(name) == 1 and name not in names}

    def wrong(self, rows):
        found = []
        for row in rows:
            if isinstance(row, ast.If):
                found += [] if self.is_test(row.test) else [row.lineno]
                found += self.wrong(row.body) + self.wrong(row.orelse)
            elif not self.is_row(row):
                found.append(row.lineno)
        return found

    def is_row(self, row):
        if isinstance(row, ast.Return):
            return row.value is None or is_constant(row.value, None, False)
        if isinstance(row, ast.Assign):
            return len(row.targets) == 1 and self.is_given(row.targets[0], row.value)
        if isinstance(row, ast.AugAssign):
            return isinstance(row.op, (ast.Add, ast.Sub)) and self.is_own_value(row.target) and is_number(row.value)
        if isinstance(row, ast.Expr):
            return self.is_call(row.value)
        return isinstance(row, ast.Pass)

    def is_given(self, target, value):
        """Tell whether an attribute is given something plain, or a name a value of the object, once."""
        if isinstance(target, ast.Name):
            return target.id in self.held and isinstance(value, ast.Attribute) and is_name(value.value, {self.me})
        return self.is_own_value(target) and self.is_plain(value)

    def is_call(self, node):
        """Tell whether a call appends something plain to a list of the object, or clears it."""
        if not isinstance(node, ast.Call) or not isinstance(node.func, ast.Attribute) or node.keywords:
            return False
        if not self.is_read(node.func.value):
            return False
        if node.func.attr == "append":
            return len(node.args) == 1 and self.is_plain(node.args[0])
        return node.func.attr == "clear" and node.args == []

    def is_own_value(self, node):
        return isinstance(node, ast.Attribute) and is_name(node.value, self.held | {self.me})

    def is_read(self, node):
        """Tell whether a local name or an attribute is read."""
        while isinstance(node, ast.Attribute):
            node = node.value
            if is_name(node, {self.me}):
                return True
        return is_name(node, self.held)

    def is_plain(self, node):
        if isinstance(node, (ast.List, ast.Tuple)):
            return all(self.is_plain(item) for item in node.elts)
        if isinstance(node, ast.BinOp):
            return not self.arithmetic and self.is_plain(node.left) and self.is_added(node)
        return is_written(node) or self.is_read(node)

    def is_added(self, node):
        if isinstance(node.op, ast.Sub):
            return is_number(node.right)
        return isinstance(node.op, ast.Add) and self.is_plain(node.right)

    def is_test(self, node):
        if isinstance(node, ast.BoolOp):
            return all(self.is_test(part) for part in node.values)
        if isinstance(node, ast.UnaryOp):
            return isinstance(node.op, ast.Not) and self.is_test(node.operand)
        if not isinstance(node, ast.Compare) or len(node.ops) != 1:
            return False
        if not isinstance(node.ops[0], (ast.Is, ast.IsNot)) or not is_constant(node.comparators[0], None):
            return False
        return self.is_read(node.left) or self.kind is not None and is_name(node.left, {self.kind})


def is_name(node, names):
    return isinstance(node, ast.Name) and node.id in names


def is_constant(node, *values):
    return isinstance(node, ast.Constant) and any(node.value is value for value in values)


def is_written(node):
    return isinstance(node, ast.Constant) and isinstance(node.value, (int, str, bytes, type(None)))


def is_number(node):
    return isinstance(node, ast.Constant) and type(node.value) is int
