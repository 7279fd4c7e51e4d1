"""Rules of the language that can be seen from the files of the package alone."""

import ast
import builtins
import unittest
from pathlib import Path

from tests.leaving import leaving_faults

PACKAGE = Path(__file__).resolve().parent.parent / "unmissed"
FILES = sorted(PACKAGE.rglob("*.py"))

LIBRARY = {
    "heapq": "heappush heappop heapify heapreplace heappushpop",
    "math": "gcd lcm isqrt comb perm factorial",
    "itertools": "product combinations permutations chain accumulate pairwise islice zip_longest",
    "collections": "defaultdict deque",
}
BUILTINS = """len range enumerate zip min max sum abs sorted reversed int str bool list tuple dict set isinstance
ord repr any all divmod pow getattr hasattr setattr iter next map type super property staticmethod classmethod
Exception ValueError TypeError KeyError IndexError LookupError ZeroDivisionError ArithmeticError OverflowError
RuntimeError NotImplementedError AttributeError StopIteration NotImplemented""".split()
METHODS = """append clear copy count endswith extend find get index insert isalnum isalpha isdigit islower isspace
isupper items join keys ljust lower lstrip partition pop remove replace reverse rfind rjust rpartition rsplit rstrip
setdefault split splitlines startswith strip update upper values zfill bit_length add discard""".split()
SPECIAL = """__init__ __eq__ __repr__ __str__ __len__ __enter__ __exit__ __call__ __iter__ __lt__ __le__ __gt__ __ge__
__ne__ __contains__ __getitem__ __setitem__ __iadd__ __add__ __sub__ __bool__""".split()
MARKS = ["property", "setter", "staticmethod", "classmethod"]
# Names that no rule allows anywhere, attributes included.
BARRED = ["register", "mro", "elements", "open", "input", "law", "version_info", "with_traceback", "add_note"]
STATEMENTS = """Assign AnnAssign AugAssign If While For Return Break Continue Pass Raise Assert Delete Nonlocal Match
With Try Expr FunctionDef ClassDef ImportFrom""".split()


def nodes(tree, *kinds):
    return [node for node in ast.walk(tree) if isinstance(node, kinds)]


def builtin_methods():
    return {name for kind in (str, list, dict, set, int, tuple, bytes) for name in dir(kind)}


def methods_of(tree):
    return [part for node in nodes(tree, ast.ClassDef) for part in node.body if isinstance(part, ast.FunctionDef)]


def bound_names(tree, has_methods=True):
    names = [node.id for node in nodes(tree, ast.Name) if isinstance(node.ctx, ast.Store)]
    methods = [] if has_methods else methods_of(tree)
    names += [node.name for node in nodes(tree, ast.FunctionDef, ast.ClassDef) if node not in methods]
    return names + [node.arg for node in nodes(tree, ast.arg)]


def parsed(path):
    return ast.parse(path.read_text(encoding="ascii"))


class LanguageTest(unittest.TestCase):
    def test_files(self):
        self.assertIn(PACKAGE / "__init__.py", FILES)
        for path in PACKAGE.rglob("*"):
            if path.name != "__pycache__" and path.parent.name != "__pycache__":
                self.assertRegex(path.name, r"^[a-z0-9_]+\.py$")

    def test_sizes_and_signs(self):
        for path in FILES:
            with self.subTest(path.name):
                tree = parsed(path)
                text = path.read_text(encoding="ascii")
                self.assertEqual([sign for sign in text if sign != "\n" and not " " <= sign <= "~"], [])
                self.assertLess(len(text.split("\n")), 400)
                self.assertEqual([line for line in text.split("\n") if len(line) > 120], [])
                for node in nodes(tree, ast.FunctionDef):
                    self.assertLessEqual(node.end_lineno - node.lineno + 1, 40, node.name)

    def test_imports(self):
        for path in FILES:
            with self.subTest(path.name):
                tree = parsed(path)
                for node in nodes(tree, ast.Import, ast.ImportFrom):
                    self.assertIsInstance(node, ast.ImportFrom)
                    self.assertIn(node, tree.body)
                    self.assertEqual((node.level, [name.asname for name in node.names if name.asname]), (0, []))
                    names = [name.name for name in node.names]
                    if node.module in LIBRARY:
                        self.assertLessEqual(set(names), set(LIBRARY[node.module].split()))
                        continue
                    self.assertTrue(node.module.startswith("unmissed."))
                    source = parsed(PACKAGE / (node.module.partition(".")[2] + ".py"))
                    self.assertLessEqual(set(names), set(bound_names(source)))

    def test_module_level(self):
        for path in FILES:
            with self.subTest(path.name):
                tree = parsed(path)
                for node in tree.body:
                    self.assertIsInstance(node, (ast.Expr, ast.ImportFrom, ast.FunctionDef, ast.ClassDef, ast.Assign))
                    if isinstance(node, ast.Expr):
                        self.assertIs(node, tree.body[0])
                        self.assertIsNotNone(ast.get_docstring(tree))

    def test_statements_and_expressions(self):
        for path in FILES:
            with self.subTest(path.name):
                tree = parsed(path)
                for node in nodes(tree, ast.stmt):
                    self.assertIn(node.__class__.__name__, STATEMENTS)
                # Where a class has __eq__, any, all, min, max, sum and sorted take no generator expression.
                barred = (ast.GeneratorExp, ast.Div, ast.Await, ast.MatMult, ast.Global)
                self.assertEqual([ast.dump(node) for node in nodes(tree, *barred)], [])
                for node in nodes(tree, ast.Constant):
                    self.assertIn(type(node.value), (int, str, bytes, bool, type(None)))
                    self.assertFalse(isinstance(node.value, str) and "%" in node.value)
                for node in nodes(tree, ast.FunctionDef, ast.ClassDef):
                    for mark in node.decorator_list:
                        self.assertIn(ast.unparse(mark).split(".")[-1], MARKS)

    def test_names(self):
        barred = dir(builtins)
        for path in FILES:
            with self.subTest(path.name):
                tree = parsed(path)
                imported = [name.name for node in nodes(tree, ast.ImportFrom) for name in node.names]
                classes = [node.name for node in nodes(tree, ast.ClassDef)]
                methods = [part.name for part in methods_of(tree)]
                bound = bound_names(tree)
                self.assertEqual([name for name in bound if name in barred], [])
                # A method may have the name of an import; nothing else has.
                self.assertEqual([name for name in bound_names(tree, has_methods=False) if name in imported], [])
                self.assertEqual([name for name in bound if name in classes], classes)
                self.assertEqual([name for name in methods if name.startswith("__") and name not in SPECIAL], [])
                self.assertEqual([name for name in set(bound) if name in BARRED or name.startswith("__")
                                  and name not in methods], [])
                for node in nodes(tree, ast.Name):
                    if hasattr(builtins, node.id):
                        self.assertIn(node.id, BUILTINS)

    def test_methods_and_attributes(self):
        barred = builtin_methods() - set(METHODS)
        for path in FILES:
            with self.subTest(path.name):
                tree = parsed(path)
                for node in nodes(tree, ast.Attribute):
                    self.assertNotIn(node.attr, BARRED)
                    if not node.attr.startswith("__"):
                        self.assertNotIn(node.attr, barred)

    def test_no_name_is_a_method_and_an_attribute(self):
        methods, attributes = set(), set()
        for path in FILES:
            tree = parsed(path)
            methods |= {part.name for part in methods_of(tree)}
            attributes |= {node.attr for node in nodes(tree, ast.Attribute) if isinstance(node.ctx, ast.Store)}
        self.assertEqual(methods & attributes, set())

    def test_leaving_a_block(self):
        many = 0
        for path in FILES:
            with self.subTest(path.name):
                tree = parsed(path)
                many += len([part for part in methods_of(tree) if part.name == "__exit__"])
                self.assertEqual(leaving_faults(tree), [])
        # A watch's trial at least is a block.
        self.assertGreater(many, 0)

    def test_no_module_leads_back_to_itself(self):
        ahead = {}
        for path in FILES:
            found = nodes(parsed(path), ast.ImportFrom)
            ahead[path.stem] = [node.module.partition(".")[2] for node in found if node.module not in LIBRARY]
        while ahead:
            free = [name for name in ahead if not [part for part in ahead[name] if part in ahead]]
            self.assertTrue(free, ahead)
            for name in free:
                del ahead[name]


LEAVING = """
class Trial:
    def __exit__(self, kind, value, trace):
        watch = self.watch
        {row}
            watch.deeds = self.deeds
        {behind}

    def shut(self):
        {shut}
        self.rows = ()

    def add(self, row):
        self.rows = row
"""


class LeavingTest(unittest.TestCase):
    """What the look at the rows of `__exit__` finds."""

    def faults(self, row="if kind is None:", behind="pass", shut="pass"):
        return leaving_faults(ast.parse(LEAVING.format(row=row, behind=behind, shut=shut)))

    def test_what_may_be_asked(self):
        for test in ("kind is None", "kind is not None", "self.kept is None", "self.watch.block is not None",
                     "watch is None", "watch.block is None", "not kind is None",
                     "kind is not None or self.kept is None", "not (kind is None and self.kept is not None)"):
            self.assertEqual(self.faults(f"if {test}:"), [], test)

    def test_what_may_not_be_asked(self):
        for test in ("self.kept", "not self.kept", "kind is not None or not self.is_kept", "kind", "not kind", "watch",
                     "kind is None and self.kept", "self.kept is True", "self.many == 0", "self.many > 0",
                     "value is None", "trace is not None", "self.kept is self.none", "None is self.kept",
                     "self.kept == None", "True", "None", "self.asks()", "self.asks() is None",
                     "len(self.deeds) is None", "self.deeds[0] is None",
                     "DONE is None", "kind is None is None", "(kept := self.kept) is None", "kind in (None,)",
                     "self.kept if kind is None else watch.kept", "isinstance(kind, ValueError)"):
            self.assertEqual(self.faults(f"if {test}:"), [5], test)

    def test_ifs_within_ifs(self):
        ahead = "if kind is None:\n            "
        self.assertEqual(self.faults(behind=ahead + "if self.kept:\n                pass"), [8])
        self.assertEqual(self.faults(behind=ahead + "pass\n        elif self.kept:\n            pass"), [9])
        self.assertEqual(self.faults(behind=ahead + "pass\n        else:\n            self.at += 1"), [10])

    def test_rows_that_may_stand_there(self):
        for row in ("pass", "return", "return None", "return False", "self.word = 'out'", "self.at = 0", "self.shut()",
                    "watch.rows = self.rows", "watch.block = watch", "self.rows = [self.at, (watch, ())]",
                    "deeds = self.deeds"):
            self.assertEqual(self.faults(behind=row), [], row)

    def test_rows_that_may_not_stand_there(self):
        for row in ("return True", "return 0", "return self", "self.at = -1", "self.at = self.at + 1", "self.at += 1",
                    "self.word = kind", "self.word = value", "self.word = DONE", "self.at = len(self.rows)",
                    "deeds = 0", "watch = self.other", "watch = self", "deeds = self.watch.deeds", "kind = self.kind",
                    "watch.undo()", "self.undo()", "self.add(1)", "self.at = self.rows[0]", "self.rows[0] = 1",
                    "self.a = self.b = 0",
                    "del self.rows[0]", "raise ValueError", "assert self.kept is None", "for at in self.rows: pass",
                    "while self.kept is None: pass", "print(self.kept)", "'a docstring'", "self.word: int = 0",
                    "self.shut"):
            self.assertEqual(self.faults(behind=row), [7], row)

    def test_methods_that_are_called(self):
        asking = "if not self.kept:\n            return"
        self.assertEqual(self.faults(shut=asking), [])
        self.assertEqual(self.faults(behind="self.shut()", shut=asking), [10])
        self.assertEqual(self.faults(behind="self.shut()", shut="self.shut()"), [10])
        self.assertEqual(self.faults(behind="self.shut()", shut="if self.kept is None:\n            return"), [])


if __name__ == "__main__":
    unittest.main()
