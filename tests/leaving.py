"""L6 With: what `__exit__`, and the methods that it calls, may do in this package.

Book, Client and Watch have `__eq__` or `__len__`, Watch has `__iadd__`: so of attributes and names nothing is asked
there but whether they are None, and nothing is added. What else L6 lets in other packages is not needed here.
"""

import ast

# The parameters of `__exit__` behind its own object: the first may only be asked whether it is None, others nothing.
ASKED = "kind"
UNREAD = ["value", "trace", "told"]


def is_literal(node, *worths):
    return isinstance(node, ast.Constant) and any(node.value is worth for worth in worths)


def is_thing(node, names):
    """Whether a node is one of these names, or an attribute of such a one."""
    while isinstance(node, ast.Attribute):
        node = node.value
    return isinstance(node, ast.Name) and node.id in names


def is_simple(node, names):
    """Whether a node is a thing, a literal without a minus, or a list or tuple of such."""
    if isinstance(node, (ast.List, ast.Tuple)):
        return all(is_simple(part, names) for part in node.elts)
    return isinstance(node, ast.Constant) or is_thing(node, names)


def is_asked(node, names):
    """Whether a test asks nothing but whether things are None."""
    if isinstance(node, ast.BoolOp):
        return all(is_asked(part, names) for part in node.values)
    if isinstance(node, ast.UnaryOp):
        return isinstance(node.op, ast.Not) and is_asked(node.operand, names)
    if not isinstance(node, ast.Compare) or len(node.ops) != 1 or not isinstance(node.ops[0], (ast.Is, ast.IsNot)):
        return False
    return is_literal(node.comparators[0], None) and is_thing(node.left, names + [ASKED])


class Leaving:
    """Goes through the rows of a method by which a block is left; faults are the numbers of those that may not be."""

    def __init__(self, method, others):
        """others are the methods, by their names, that it may call."""
        self.others = others
        self.own = method.args.args[0].arg
        self.names = [self.own]
        self.faults = []
        self.look_at(method.body)

    def look_at(self, rows):
        for row in rows:
            if not self.is_right(row):
                self.faults.append(row.lineno)

    def is_right(self, row):
        """Whether a row may stand there; those within an `if`, and of a method that is called, count by themselves."""
        if isinstance(row, ast.If):
            self.look_at(row.body + row.orelse)
            return is_asked(row.test, self.names)
        if isinstance(row, ast.Assign):
            return len(row.targets) == 1 and self.is_assignment(row.targets[0], row.value)
        if isinstance(row, ast.Return):
            return row.value is None or is_literal(row.value, None, False)
        return isinstance(row, ast.Pass) or isinstance(row, ast.Expr) and self.is_call(row.value)

    def is_own(self, node):
        """Whether a node is an attribute of the object itself."""
        return isinstance(node, ast.Attribute) and isinstance(node.value, ast.Name) and node.value.id == self.own

    def is_assignment(self, target, worth):
        """Whether a thing, or a new name for an attribute of the object itself, is assigned."""
        if isinstance(target, ast.Attribute):
            return is_thing(target, self.names) and is_simple(worth, self.names)
        if not isinstance(target, ast.Name) or target.id in self.names + [ASKED] + UNREAD:
            return False
        self.names.append(target.id)
        return self.is_own(worth)

    def is_call(self, node):
        """Whether a node is `self.shut()`, a call of one of the others."""
        if not isinstance(node, ast.Call) or node.args or node.keywords or not self.is_own(node.func):
            return False
        if node.func.attr not in self.others:
            return False
        self.faults += Leaving(self.others[node.func.attr], {}).faults
        return True


def leaving_faults(tree):
    """The numbers of the rows that L6 With does not let, in all classes of a file."""
    faults = []
    for node in ast.walk(tree):
        if isinstance(node, ast.ClassDef):
            methods = {part.name: part for part in node.body if isinstance(part, ast.FunctionDef)}
            if "__exit__" in methods:
                faults += Leaving(methods.pop("__exit__"), methods).faults
    return faults
