"""Holds the package's files to the part of Python they are to keep to, as far as it can be seen from the code."""

import ast
import builtins
import pathlib
import re
import unittest

PACKAGE = pathlib.Path(__file__).resolve().parent.parent / "keptreading"

STATEMENTS = (ast.Module, ast.FunctionDef, ast.ClassDef, ast.ImportFrom, ast.Assign, ast.AugAssign, ast.If, ast.While,
              ast.For, ast.Return, ast.Break, ast.Continue, ast.Pass, ast.Raise, ast.Try, ast.ExceptHandler, ast.Expr)
EXPRESSIONS = (ast.Constant, ast.List, ast.Tuple, ast.Dict, ast.Set, ast.BinOp, ast.UnaryOp, ast.BoolOp, ast.Compare,
               ast.IfExp, ast.Call, ast.Attribute, ast.Subscript, ast.Slice, ast.ListComp, ast.comprehension,
               ast.JoinedStr, ast.FormattedValue, ast.Name, ast.Lambda, ast.arguments, ast.arg, ast.alias, ast.keyword,
               ast.expr_context, ast.operator, ast.unaryop, ast.boolop, ast.cmpop)
OWN_NAMES = """len range enumerate zip min max sum abs sorted reversed int str bool list tuple dict set isinstance ord
repr any all divmod Exception ValueError TypeError KeyError IndexError LookupError ZeroDivisionError ArithmeticError
OverflowError RuntimeError NotImplementedError AttributeError StopIteration""".split()
METHODS = """append clear copy count endswith extend find get index insert isalnum isalpha isdigit islower isspace
isupper items join keys ljust lower lstrip partition pop remove replace reverse rfind rjust rpartition rsplit rstrip
setdefault split splitlines startswith strip update upper values zfill bit_length""".split()
UNUSED = """attrgetter breakpoint builtins compile copyright credits delattr dir eval exec exit gc getattr globals
hasattr help id importlib license locals methodcaller os quit setattr super type vars sys register mro elements open
input version_info with_traceback add_note""".split()
BARRED_WORDS = """type typing typing_extensions enum Enum IntEnum StrEnum Flag IntFlag Generic Protocol ABC ABCMeta
namedtuple NamedTuple TypedDict TYPE_CHECKING abstractmethod""".split()
BARRED_PIECES = ("dataclass", "overload", "contextmanager")
BARRED_FILES = ["test", "tests", "testing", "site", "conftest", "sitecustomize", "usercustomize"]
TWO_UNDERSCORES = ("__init__", "__eq__", "__repr__", "__str__", "__len__")
FREE_VALUES = "count index title find get join lower upper split strip copy add".split()
WALKED = ("zip", "enumerate", "reversed", "range", "items", "keys", "values")
WALKERS = ("list", "tuple", "dict", "sorted", "sum", "any", "all", "enumerate", "zip", "min", "max", "join")


def called(node):
    if not isinstance(node, ast.Call):
        return None
    return node.func.id if isinstance(node.func, ast.Name) else getattr(node.func, "attr", None)


class Code:
    def __init__(self, path):
        self.path = path
        self.text = path.read_bytes().decode("utf-8")
        self.tree = ast.parse(self.text)
        self.nodes = list(ast.walk(self.tree))
        self.above = {}
        for node in self.nodes:
            for child in ast.iter_child_nodes(node):
                self.above[child] = node

    def of(self, *kinds):
        return [node for node in self.nodes if isinstance(node, kinds)]

    def bound(self):
        names = [node.id for node in self.of(ast.Name) if isinstance(node.ctx, ast.Store)]
        names += [node.arg for node in self.of(ast.arg)]
        return names + [node.name for node in self.of(ast.FunctionDef, ast.ClassDef)]

    def top(self):
        names = [node.name for node in self.tree.body if isinstance(node, (ast.FunctionDef, ast.ClassDef))]
        for node in self.tree.body:
            if isinstance(node, ast.Assign):
                names.append(node.targets[0].id)
        return names

    def drawn(self):
        return [node.module for node in self.of(ast.ImportFrom)]


class Language(unittest.TestCase):
    @classmethod
    def setUpClass(cls):
        cls.codes = [Code(path) for path in sorted(PACKAGE.glob("*.py"))]
        cls.methods = {node.name for code in cls.codes for owner in code.of(ast.ClassDef) for node in owner.body
                       if isinstance(node, ast.FunctionDef)}

    def each(self, *kinds):
        return [(code, node) for code in self.codes for node in code.of(*kinds)]

    def holds(self, truth, code, node, words):
        self.assertTrue(truth, f"{code.path.name}:{getattr(node, 'lineno', 0)}: {words}")

    def test_files(self):
        found = [path for path in PACKAGE.iterdir() if path.name != "__pycache__"]
        self.assertIn(PACKAGE / "__init__.py", found)
        for path in found:
            self.assertRegex(path.name, r"^(__init__|__main__|[a-z][a-z0-9_]*)\.py$")
            self.assertNotIn(path.stem, BARRED_FILES + BARRED_WORDS + dir(builtins))
            self.assertFalse(path.stem.startswith("test_"))

    def test_signs_and_sizes(self):
        for code in self.codes:
            self.assertRegex(code.text, r"\A[ -~\n]*\Z", code.path.name)
            lines = code.text.split("\n")
            self.assertLessEqual(len(lines), 400)
            self.assertLessEqual(max(len(line) for line in lines), 120)
        for code, node in self.each(ast.FunctionDef):
            self.holds(node.end_lineno - node.lineno < 40, code, node, "too long")

    def test_words(self):
        for code in self.codes:
            for word in BARRED_WORDS:
                self.assertIsNone(re.search(rf"\b{word}\b", code.text), (code.path.name, word))
            for piece in BARRED_PIECES:
                self.assertNotIn(piece, code.text)

    def test_kinds_of_code(self):
        for code, node in self.each(ast.AST):
            self.holds(isinstance(node, STATEMENTS + EXPRESSIONS), code, node, ast.dump(node))
            self.holds(not isinstance(node, (ast.Div, ast.MatMult)), code, node, "an operator")
            self.holds(not getattr(node, "decorator_list", []), code, node, "a decorator")
        for code, node in self.each(ast.For, ast.While):
            self.holds(not node.orelse, code, node, "else behind a loop")
        for code, node in self.each(ast.Assign):
            self.holds(len(node.targets) == 1, code, node, "several targets")
        for code, node in self.each(ast.Try):
            self.holds(not node.finalbody, code, node, "finally")
        for code, node in self.each(ast.ListComp):
            self.holds(len(node.generators) == 1 and len(node.generators[0].ifs) <= 1, code, node, "comprehension")
        for code, node in self.each(ast.Expr):
            plain = isinstance(node.value, ast.Call) or node == code.tree.body[0]
            self.holds(plain, code, node, "an expression by itself")

    def test_functions_and_classes(self):
        for code, node in self.each(ast.arguments):
            bare = not (node.vararg or node.kwarg or node.kwonlyargs or node.posonlyargs)
            self.holds(bare, code, node, "parameters")
        for code, node in self.each(ast.ClassDef):
            self.holds(code.above[node] == code.tree, code, node, "not at the top")
            self.holds(len(node.bases) <= 1 and not node.keywords, code, node, "bases")
            for part in node.body:
                self.holds(isinstance(part, (ast.FunctionDef, ast.Pass)), code, part, "in a class body")

    def test_the_top_of_each_file(self):
        kinds = (ast.ImportFrom, ast.FunctionDef, ast.ClassDef, ast.Assign)
        for code in self.codes:
            self.assertIsNotNone(ast.get_docstring(code.tree), code.path.name)
            for node in code.tree.body[1:]:
                self.holds(isinstance(node, kinds), code, node, "at the top")
                if isinstance(node, ast.Assign):
                    ast.literal_eval(node.value)
            self.assertEqual(len(code.top()), len(set(code.top())), code.path.name)

    def test_imports(self):
        stems = {"keptreading." + code.path.stem: code for code in self.codes}
        for code, node in self.each(ast.ImportFrom):
            self.holds(node.level == 0 and node.module in stems, code, node, "draws from elsewhere")
            self.holds(code.above[node] == code.tree, code, node, "not at the top")
            for alias in node.names:
                self.holds(alias.name in stems[node.module].top(), code, node, "not defined there")
        # What is left when files that draw from none of the left ones are put away draws in a ring.
        left = dict(stems)
        while left:
            ready = [stem for stem in left if not any(other in left for other in left[stem].drawn())]
            self.assertTrue(ready, sorted(left))
            for stem in ready:
                del left[stem]

    def test_names(self):
        for code in self.codes:
            for name in code.bound():
                plain = re.fullmatch(r"[A-Za-z][A-Za-z0-9_]*", name) or name in TWO_UNDERSCORES
                self.assertTrue(plain, (code.path.name, name))
                if name not in self.methods:
                    self.assertNotIn(name, dir(builtins) + UNUSED, code.path.name)
        for code, node in self.each(ast.Name):
            known = node.id in OWN_NAMES or node.id not in dir(builtins)
            self.holds(known and node.id not in UNUSED, code, node, node.id)

    def test_methods(self):
        for code, node in self.each(ast.Attribute):
            if isinstance(code.above[node], ast.Call) and code.above[node].func == node:
                self.holds(node.attr in METHODS or node.attr in self.methods, code, node, node.attr)
            else:
                self.holds(node.attr not in METHODS, code, node, node.attr + " is not called")

    def test_own_methods_and_values(self):
        native = {name for kind in (str, int, list, dict, set, bytes) for name in dir(kind)}
        for name in self.methods - set(TWO_UNDERSCORES):
            self.assertTrue(name not in native or name in METHODS + ["add", "discard"], name)
        for code, node in self.each(ast.Attribute):
            if isinstance(node.ctx, ast.Store):
                self.holds(node.attr not in self.methods, code, node, node.attr + " is a method too")
                self.holds(node.attr not in native or node.attr in FREE_VALUES, code, node, node.attr)
        for code, owner in self.each(ast.ClassDef):
            names = [node.name for node in owner.body if isinstance(node, ast.FunctionDef)]
            self.holds(len(names) == len(set(names)), code, owner, "a method twice")

    def test_locals_are_called_like_nothing_at_the_top(self):
        for code in self.codes:
            classes = [node.name for node in code.of(ast.ClassDef)]
            drawn = [alias.name for node in code.of(ast.ImportFrom) for alias in node.names]
            names = [node.id for node in code.of(ast.Name) if isinstance(node.ctx, ast.Store)]
            for name in names + [node.arg for node in code.of(ast.arg)]:
                self.assertNotIn(name, classes + drawn, code.path.name)

    def test_comparisons_by_is(self):
        for code, node in self.each(ast.Compare):
            for operator, right in zip(node.ops, node.comparators):
                if isinstance(operator, (ast.Is, ast.IsNot)):
                    plain = isinstance(right, ast.Constant) and any(right.value is x for x in (None, True, False))
                    self.holds(plain, code, node, "is")

    def test_sets_are_not_kept(self):
        for code, node in self.each(ast.Call, ast.Set):
            if called(node) == "set" or isinstance(node, ast.Set):
                above = code.above[node]
                while isinstance(above, ast.BinOp):
                    above = code.above[above]
                spot = called(above) in ("sorted", "len") and not above.keywords or isinstance(above, ast.Compare)
                self.holds(spot, code, node, "a set is kept")

    def test_walked_at_once(self):
        for code, node in self.each(ast.Call):
            if called(node) in WALKED:
                above = code.above[node]
                spot = isinstance(above, (ast.For, ast.comprehension)) or called(above) in WALKERS
                self.holds(spot, code, node, "is not walked at once")

    def test_texts_and_numbers(self):
        for code, node in self.each(ast.Constant):
            plain = node.value is None or isinstance(node.value, (bool, int, str))
            self.holds(plain, code, node, "a value of another kind")
            if isinstance(node.value, str):
                self.holds("%" not in node.value, code, node, "a barred sign")
        for code in self.codes:
            for escape in re.findall(r"\\(.)", code.text):
                self.assertIn(escape, "nt\\'\"", code.path.name)

    def test_errors(self):
        for code, node in self.each(ast.ExceptHandler):
            named = isinstance(node.type, (ast.Name, ast.Tuple))
            self.holds(named and ast.unparse(node.type) not in ("Exception", "TypeError"), code, node, "except")
        for code, node in self.each(ast.Raise):
            self.holds(isinstance(node.exc, ast.Call), code, node, "raise")


if __name__ == "__main__":
    unittest.main()
