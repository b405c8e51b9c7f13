"""The package keeps to the part of Python that it is told to keep to (LANGUAGE.md, rules L1 to L28).

What is looked at here is what can be seen without running anything; the number of a rule stands beside each check.
"""

import ast
import builtins
import os
import re
import unittest

PACKAGE = "beadhall"
FOLDER = os.path.join(os.path.dirname(os.path.dirname(os.path.abspath(__file__))), PACKAGE)

OWN_NAMES = set("""
    len range enumerate zip min max sum abs sorted reversed int str bool list tuple dict set frozenset isinstance ord
    repr any all divmod Exception ValueError TypeError KeyError IndexError LookupError ZeroDivisionError
    ArithmeticError OverflowError RuntimeError NotImplementedError AttributeError StopIteration""".split())
METHODS = set("""
    append clear copy count endswith extend find get index insert isalnum isalpha isdigit islower isspace isupper items
    join keys ljust lower lstrip partition pop remove replace reverse rfind rjust rpartition rsplit rstrip setdefault
    split splitlines startswith strip update upper values zfill bit_length""".split())
DUNDER_METHODS = {"__init__", "__eq__", "__repr__", "__str__", "__len__"}
KEYWORDS = {
    "sorted": {"key", "reverse"}, "min": {"key", "default"}, "max": {"key", "default"},
    "sum": {"start"}, "enumerate": {"start"}, "zip": {"strict"}}
UNUSED_WORDS = """
    type typing typing_extensions enum Enum IntEnum StrEnum Flag IntFlag Generic Protocol ABC ABCMeta namedtuple
    NamedTuple TypedDict TYPE_CHECKING abstractmethod""".split()
UNUSED_PARTS = ["dataclass", "overload", "contextmanager"]
UNUSED_NAMES = set("""
    register mro elements open input version_info with_traceback add_note format format_map args encode sort
    """.split())
STATEMENTS = (
    ast.Assign, ast.AugAssign, ast.If, ast.While, ast.For, ast.Return, ast.Break, ast.Continue, ast.Pass, ast.Raise,
    ast.Try, ast.Expr, ast.FunctionDef, ast.ClassDef, ast.ImportFrom)
EXPRESSIONS = (
    ast.Constant, ast.List, ast.Tuple, ast.Dict, ast.Set, ast.BinOp, ast.UnaryOp, ast.Compare, ast.BoolOp, ast.IfExp,
    ast.Call, ast.Attribute, ast.Subscript, ast.Slice, ast.ListComp, ast.JoinedStr, ast.FormattedValue, ast.Name,
    ast.Lambda)


def sources():
    found = {}
    for name in sorted(os.listdir(FOLDER)):
        if name.endswith(".py"):
            with open(os.path.join(FOLDER, name), encoding="utf-8", newline="") as file:
                found[name] = file.read()
    return found


SOURCES = sources()
TREES = {name: ast.parse(text) for name, text in SOURCES.items()}


def nodes(*kinds):
    for name, tree in TREES.items():
        for node in ast.walk(tree):
            if isinstance(node, kinds):
                yield name, node


def own_defs():
    return {node.name for _, node in nodes(ast.FunctionDef, ast.ClassDef)}


def top_names(tree):
    found = []
    for node in tree.body:
        if isinstance(node, (ast.FunctionDef, ast.ClassDef)):
            found.append(node.name)
        elif isinstance(node, ast.Assign):
            found.extend(target.id for target in node.targets)
    return found


def is_text(node):
    return isinstance(node, ast.Expr) and isinstance(node.value, ast.Constant) and isinstance(node.value.value, str)


class LanguageTest(unittest.TestCase):
    def wrong(self, rule, name, node, what):
        self.fail(f"{rule}: {name}, line {getattr(node, 'lineno', 0)}: {what}")

    def test_files(self):
        """L1, L14"""
        self.assertIn("__init__.py", SOURCES)
        for name in os.listdir(FOLDER):
            if name != "__pycache__":
                self.assertRegex(name, r"^([a-z][a-z0-9_]*|__init__|__main__)\.py$")

    def test_signs_and_sizes(self):
        """L10, L14"""
        for name, text in SOURCES.items():
            self.assertRegex(text, r"\A[ -~\n]*\Z", name)
            self.assertLessEqual(len(text.splitlines()), 400, name)
            for number, line in enumerate(text.splitlines(), start=1):
                self.assertLessEqual(len(line), 120, f"{name}, line {number}")
        for name, node in nodes(ast.FunctionDef):
            if node.end_lineno - node.lineno >= 40:
                self.wrong("L10", name, node, "a function of more than 40 lines")

    def test_words_that_stand_nowhere(self):
        """L17"""
        for name, text in SOURCES.items():
            for word in UNUSED_WORDS:
                self.assertIsNone(re.search(rf"\b{word}\b", text), f"{name}: {word}")
            for part in UNUSED_PARTS:
                self.assertNotIn(part, text, name)

    def test_imports(self):
        """L2, L16"""
        drawn = {name: set() for name in TREES}
        for name, node in nodes(ast.Import, ast.ImportFrom):
            if isinstance(node, ast.Import) or node.level or not (node.module or "").startswith(PACKAGE + "."):
                self.wrong("L16", name, node, "an import that is not of the package's own")
            file = node.module[len(PACKAGE) + 1:] + ".py"
            drawn[name].add(file)
            for alias in node.names:
                if alias.name not in top_names(TREES[file]):
                    self.wrong("L16", name, node, f"{alias.name} is not defined in {file}")
        self.assertEqual(drawn["__init__.py"], set())
        while drawn:
            free = [name for name in drawn if not drawn[name] & set(drawn)]
            self.assertTrue(free, f"L16: files that draw from one another: {sorted(drawn)}")
            for name in free:
                drawn.pop(name)

    def test_tops(self):
        """L3, L15"""
        for name, tree in TREES.items():
            for place, node in enumerate(tree.body):
                right = isinstance(node, (ast.ImportFrom, ast.FunctionDef, ast.ClassDef, ast.Assign))
                if not right and not (place == 0 and is_text(node)):
                    self.wrong("L3", name, node, "something else at the top of a file")
            names = top_names(tree)
            self.assertEqual(len(names), len(set(names)), f"L15: {name}: a name bound twice")

    def test_values_at_the_top(self):
        """L3, L15"""
        for name, tree in TREES.items():
            above = set()
            for node in tree.body:
                if isinstance(node, ast.FunctionDef):
                    above.add(node.name)
                if not isinstance(node, ast.Assign):
                    continue
                for inner in ast.walk(node.value):
                    if isinstance(inner, ast.Name) and inner.id not in above:
                        self.wrong("L3", name, inner, f"{inner.id} is no function defined above")
                    if not isinstance(inner, (
                            ast.Constant, ast.List, ast.Tuple, ast.Dict, ast.Name, ast.UnaryOp, ast.USub, ast.Load)):
                        self.wrong("L3", name, node, "no plain value")
                    if inner is not node.value and isinstance(inner, (ast.List, ast.Dict)):
                        self.wrong("L15", name, node, "a list or dict within another value")

    def test_lists_and_dicts_at_the_top_are_only_read(self):
        """L15"""
        for name, tree in TREES.items():
            kept = {
                node.targets[0].id for node in tree.body
                if isinstance(node, ast.Assign) and isinstance(node.value, (ast.List, ast.Dict))}
            read = set()
            for node in ast.walk(tree):
                if isinstance(node, ast.Subscript) and isinstance(node.ctx, ast.Load):
                    read.add(node.value)
                if isinstance(node, ast.Compare):
                    read.update(node.comparators)
                if isinstance(node, (ast.For, ast.comprehension)):
                    read.add(node.iter)
            for node in ast.walk(tree):
                if isinstance(node, ast.Name) and node.id in kept and isinstance(node.ctx, ast.Load):
                    if node not in read:
                        self.wrong("L15", name, node, f"{node.id} is handed on")

    def test_statements_and_expressions(self):
        """L6, L7"""
        for name, node in nodes(ast.stmt):
            if not isinstance(node, STATEMENTS):
                self.wrong("L6", name, node, "another kind of statement")
            if isinstance(node, (ast.While, ast.For)) and node.orelse:
                self.wrong("L6", name, node, "else behind a loop")
            if isinstance(node, ast.Try) and node.finalbody:
                self.wrong("L6", name, node, "finally")
            if isinstance(node, ast.Assign) and (len(node.targets) != 1 or isinstance(node.targets[0], ast.Tuple)):
                self.wrong("L6", name, node, "more than one target")
            if isinstance(node, ast.Expr) and not isinstance(node.value, ast.Call) and not is_text(node):
                self.wrong("L6", name, node, "a value by itself")
        for name, node in nodes(ast.expr):
            if not isinstance(node, EXPRESSIONS):
                self.wrong("L7", name, node, "another kind of expression")
            if isinstance(node, ast.ListComp) and (len(node.generators) > 1 or len(node.generators[0].ifs) > 1):
                self.wrong("L7", name, node, "more than one for or if")
            if isinstance(node, ast.FormattedValue) and not isinstance(node.value, ast.Name):
                self.wrong("L7", name, node, "more than a name in an f-string")
            if isinstance(node, ast.Constant) and isinstance(node.value, (float, bytes, complex)):
                self.wrong("L7", name, node, "a value of another kind")
            if isinstance(node, ast.Constant) and isinstance(node.value, str) and "%" in node.value:
                self.wrong("L27", name, node, "a sign % in a text")

    def test_operators(self):
        """L7, L20, L27"""
        for name, node in nodes(ast.BinOp, ast.AugAssign):
            if isinstance(node.op, (ast.Div, ast.MatMult)):
                self.wrong("L7", name, node, "an operator that is out")
            if isinstance(node.op, ast.Pow):
                exponent = node.right if isinstance(node, ast.BinOp) else node.value
                if not isinstance(exponent, ast.Constant) or not 0 <= exponent.value <= 64:
                    self.wrong("L27", name, node, "an exponent that is not written")
        for name, node in nodes(ast.Compare):
            for operator, side in zip(node.ops, node.comparators):
                if isinstance(operator, (ast.Is, ast.IsNot)):
                    if not isinstance(side, ast.Constant) or side.value not in (None, True, False):
                        self.wrong("L20", name, node, "is beside something else")

    def test_functions_and_classes(self):
        """L4, L5, L18, L21"""
        for name, node in nodes(ast.FunctionDef):
            told = node.args
            if node.decorator_list or told.vararg or told.kwarg or told.kwonlyargs or told.posonlyargs:
                self.wrong("L4", name, node, "more than plain parameters")
            if node.returns or [arg for arg in told.args if arg.annotation]:
                self.wrong("L21", name, node, "an annotation")
        for name, node in nodes(ast.ClassDef):
            if node.decorator_list or node.keywords or len(node.bases) > 1:
                self.wrong("L5", name, node, "more than a plain class")
            for inner in node.body:
                if not isinstance(inner, (ast.FunctionDef, ast.Pass)) and not is_text(inner):
                    self.wrong("L5", name, inner, "a value in a class body")

    def test_names(self):
        """L8, L12, L15, L17"""
        built_in = set(dir(builtins))
        for name, node in nodes(ast.Name, ast.arg, ast.FunctionDef, ast.ClassDef, ast.Attribute):
            word = getattr(node, "id", None) or getattr(node, "arg", None) or getattr(node, "attr", None) or node.name
            if word in UNUSED_NAMES:
                self.wrong("L17", name, node, word)
            if word not in DUNDER_METHODS and not re.match(r"^[A-Za-z][A-Za-z0-9_]*$", word):
                self.wrong("L12", name, node, word)
            if isinstance(node, ast.Attribute) or word not in built_in:
                continue
            if not isinstance(node, ast.Name) or isinstance(node.ctx, ast.Store):
                self.wrong("L15", name, node, f"{word} given another meaning")
            if word not in OWN_NAMES:
                self.wrong("L8", name, node, word)

    def test_parameters_and_locals(self):
        """L15"""
        for name, tree in TREES.items():
            taken = {node.name for node in tree.body if isinstance(node, ast.ClassDef)}
            for node in tree.body:
                if isinstance(node, ast.ImportFrom):
                    taken.update(alias.asname or alias.name for alias in node.names)
            for node in ast.walk(tree):
                word = node.arg if isinstance(node, ast.arg) else None
                if isinstance(node, ast.Name) and isinstance(node.ctx, ast.Store):
                    word = node.id
                if word in taken:
                    self.wrong("L15", name, node, f"{word} is a class or an import")

    def test_calls(self):
        """L22, L25"""
        own = own_defs()
        for name, node in nodes(ast.Call):
            if isinstance(node.func, ast.Attribute) and node.func.attr not in METHODS | DUNDER_METHODS | own:
                self.wrong("L25", name, node, node.func.attr)
            word = getattr(node.func, "id", "")
            for keyword in node.keywords:
                if word not in own and keyword.arg not in KEYWORDS.get(word, ()):
                    self.wrong("L22", name, node, f"the keyword {keyword.arg}")

    def test_sets_and_walks(self):
        """L23, L24"""
        for name, tree in TREES.items():
            for node in ast.walk(tree):
                for inner in ast.iter_child_nodes(node):
                    word = getattr(getattr(inner, "func", None), "id", None) if isinstance(inner, ast.Call) else None
                    if isinstance(node, (ast.Assign, ast.Return)) and word in (
                            "set", "frozenset", "zip", "enumerate", "reversed", "range"):
                        self.wrong("L23, L24", name, inner, f"{word} is kept")


if __name__ == "__main__":
    unittest.main()
