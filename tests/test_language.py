"""The form of the package's own files: the rules of the language that can be read off the code."""

import ast
import builtins
import io
import os
import re
import tokenize
import unittest

import seatheld

FOLDER = os.path.dirname(os.path.abspath(seatheld.__file__))
STATEMENTS = (
    ast.Assign, ast.AugAssign, ast.If, ast.While, ast.For, ast.Return, ast.Break, ast.Continue, ast.Pass, ast.Raise,
    ast.Try, ast.Expr, ast.FunctionDef, ast.ClassDef, ast.ImportFrom,
)
EXPRESSIONS = (
    ast.Constant, ast.List, ast.Tuple, ast.Dict, ast.BinOp, ast.UnaryOp, ast.BoolOp, ast.Compare, ast.IfExp, ast.Call,
    ast.Attribute, ast.Subscript, ast.Slice, ast.ListComp, ast.Name, ast.Lambda,
)
OWN_NAMES = (
    "len range enumerate zip min max sum abs sorted reversed int str bool list tuple dict set isinstance ord repr any "
    "all divmod Exception ValueError KeyError ZeroDivisionError NotImplementedError"
).split()
METHODS = (
    "append clear copy count endswith extend find get index insert isalnum isalpha isdigit islower isspace isupper "
    "items join keys ljust lower lstrip partition pop remove replace reverse rfind rjust rpartition rsplit rstrip "
    "setdefault split splitlines startswith strip update upper values zfill bit_length"
).split()
NOT_AS_VALUES = (
    "items keys values pop update append clear extend insert remove reverse setdefault sort args encode format"
).split()
MAY_BE_VALUES = "count index title find get join lower upper split strip copy add".split()
BANNED_WORDS = (
    "type typing typing_extensions enum Enum IntEnum StrEnum Flag IntFlag Generic Protocol ABC ABCMeta namedtuple "
    "NamedTuple TypedDict TYPE_CHECKING abstractmethod"
).split()
BANNED_NAMES = (
    "register mro elements open input version_info with_traceback add_note attrgetter breakpoint builtins compile "
    "copyright credits delattr dir eval exec exit gc getattr globals hasattr help id importlib license locals "
    "methodcaller os quit setattr super vars sys format format_map chr print"
).split()
OWN_VALUES = (str, int, list, dict, set, bytes, tuple)


def files():
    return sorted(name for name in os.listdir(FOLDER) if name != "__pycache__")


class Language(unittest.TestCase):
    @classmethod
    def setUpClass(cls):
        cls.texts = {}
        for name in files():
            with open(os.path.join(FOLDER, name), encoding="utf-8", newline="") as file:
                cls.texts[name] = file.read()
        cls.trees = {name: ast.parse(text) for name, text in cls.texts.items()}

    def nodes(self, *kinds):
        for name, tree in self.trees.items():
            for node in ast.walk(tree):
                if isinstance(node, kinds):
                    yield "%s:%d" % (name, getattr(node, "lineno", 0)), node

    def test_files(self):
        for name in files():
            self.assertRegex(name, r"^[a-z][a-z0-9_]*\.py$|^__init__\.py$")
            self.assertTrue(name == "__init__.py" or not hasattr(builtins, name[:-3]), name)
        self.assertIn("desk.py", files())

    def test_signs_and_sizes(self):
        for name, text in self.texts.items():
            self.assertRegex(text, r"\A[ -~\n]*\Z", name)
            lines = text.split("\n")
            self.assertLessEqual(len(lines), 400, name)
            self.assertLessEqual(max(len(line) for line in lines), 120, name)
        for place, node in self.nodes(ast.FunctionDef):
            self.assertLessEqual(node.end_lineno - node.lineno + 1, 40, place)

    def test_words_that_stand_nowhere(self):
        for name, text in self.texts.items():
            for word in BANNED_WORDS:
                self.assertIsNone(re.search(r"\b%s\b" % word, text), (name, word))
            for part in ("dataclass", "overload", "contextmanager"):
                self.assertNotIn(part, text, name)

    def test_statements(self):
        for place, node in self.nodes(ast.stmt):
            self.assertIsInstance(node, STATEMENTS, place)
            if isinstance(node, ast.Assign):
                self.assertEqual(len(node.targets), 1, place)
                self.assertNotIsInstance(node.targets[0], (ast.Tuple, ast.List), place)
            if isinstance(node, (ast.For, ast.While)):
                self.assertEqual(node.orelse, [], place)
            if isinstance(node, ast.Try):
                self.assertEqual(node.finalbody, [], place)
                for handler in node.handlers:
                    self.assertIsInstance(handler.type, ast.Name, place)
                    self.assertIn(handler.type.id, ("TextFault", "SeatFault"), place)
            if isinstance(node, ast.Raise):
                self.assertIsInstance(node.exc, ast.Call, place)

    def test_expressions(self):
        for place, node in self.nodes(ast.expr):
            self.assertIsInstance(node, EXPRESSIONS, place)
            if isinstance(node, ast.Constant):
                self.assertIn(type(node.value), (int, str, bool, type(None)), place)
            if isinstance(node, ast.BinOp):
                self.assertNotIsInstance(node.op, (ast.Div, ast.MatMult, ast.Pow), place)
            if isinstance(node, ast.ListComp):
                self.assertEqual(len(node.generators), 1, place)
                self.assertLessEqual(len(node.generators[0].ifs), 1, place)
            if isinstance(node, ast.Compare):
                for op, right in zip(node.ops, node.comparators):
                    if isinstance(op, (ast.Is, ast.IsNot)):
                        self.assertIsInstance(right, ast.Constant, place)
            if isinstance(node, ast.Call):
                self.assertEqual(node.keywords, [], place)

    def test_texts(self):
        for name, text in self.texts.items():
            for token in tokenize.generate_tokens(io.StringIO(text).readline):
                if token.type == tokenize.STRING:
                    self.assertNotIn("%", token.string, (name, token.start))
                    for escape in re.findall(r"\\(.)", token.string, re.S):
                        self.assertIn(escape, "nt\\\"'", (name, token.start))

    def test_top_of_files(self):
        for name, tree in self.trees.items():
            bound = []
            for number, node in enumerate(tree.body):
                if isinstance(node, ast.Expr):
                    self.assertTrue(number == 0 and isinstance(node.value, ast.Constant), name)
                elif isinstance(node, ast.ImportFrom):
                    bound += [alias.name for alias in node.names]
                elif isinstance(node, ast.Assign):
                    bound.append(node.targets[0].id)
                    self.assertNotIsInstance(node.value, (ast.List, ast.Dict, ast.Call), name)
                else:
                    self.assertIsInstance(node, (ast.FunctionDef, ast.ClassDef), name)
                    bound.append(node.name)
            self.assertEqual(len(bound), len(set(bound)), name)

    def defined_in(self, name):
        tops = self.trees[name].body
        given = [top.targets[0].id for top in tops if isinstance(top, ast.Assign)]
        return given + [top.name for top in tops if isinstance(top, (ast.FunctionDef, ast.ClassDef))]

    def test_imports(self):
        drawn = {}
        for name, tree in self.trees.items():
            drawn[name[:-3]] = []
            for node in ast.walk(tree):
                if isinstance(node, ast.ImportFrom):
                    self.assertRegex(node.module, r"^seatheld\.[a-z]+$")
                    source = node.module.split(".")[1]
                    drawn[name[:-3]].append(source)
                    defined = self.defined_in(source + ".py")
                    for alias in node.names:
                        self.assertIsNone(alias.asname, name)
                        self.assertIn(alias.name, defined, name)
        self.assertEqual(drawn["__init__"], [])
        while drawn:
            free = [name for name in drawn if not set(drawn[name]) & set(drawn)]
            self.assertNotEqual(free, [], "files draw from one another: %s" % sorted(drawn))
            for name in free:
                drawn.pop(name)

    def test_functions_and_classes(self):
        for place, node in self.nodes(ast.FunctionDef):
            arguments = node.args
            self.assertFalse(arguments.vararg or arguments.kwarg or arguments.kwonlyargs or node.decorator_list, place)
            self.assertIsNone(node.returns, place)
        for place, node in self.nodes(ast.ClassDef):
            self.assertFalse(node.decorator_list or node.keywords, place)
            self.assertLessEqual(len(node.bases), 1, place)
            for inner in node.body:
                self.assertIsInstance(inner, ast.FunctionDef, place)

    def test_names(self):
        for name, tree in self.trees.items():
            tops = set()
            for node in tree.body:
                if isinstance(node, ast.ClassDef):
                    tops.add(node.name)
                if isinstance(node, ast.ImportFrom):
                    tops.update(alias.name for alias in node.names)
            for node in ast.walk(tree):
                given = node.arg if isinstance(node, ast.arg) else None
                if isinstance(node, ast.Name):
                    given = node.id if isinstance(node.ctx, ast.Store) else None
                    if hasattr(builtins, node.id):
                        self.assertIn(node.id, OWN_NAMES, name)
                    self.assertNotIn(node.id, BANNED_NAMES, name)
                if given is not None:
                    self.assertRegex(given, r"^[A-Za-z][A-Za-z0-9_]*$", name)
                    self.assertFalse(hasattr(builtins, given), (name, given))
                    self.assertNotIn(given, tops, name)

    def test_methods_and_values(self):
        methods, values = set(), set()
        for _, node in self.nodes(ast.ClassDef):
            methods.update(inner.name for inner in node.body if inner.name != "__init__")
        called = set()
        for _, node in self.nodes(ast.Call):
            if isinstance(node.func, ast.Attribute):
                called.add(id(node.func))
                self.assertIn(node.func.attr, METHODS + sorted(methods))
        for place, node in self.nodes(ast.Attribute):
            self.assertNotIn(node.attr, BANNED_NAMES, place)
            if id(node) not in called:
                values.add(node.attr)
        self.assertEqual(methods & values, set())
        for value in values:
            self.assertNotIn(value, NOT_AS_VALUES)
            taken = any(hasattr(kind, value) for kind in OWN_VALUES)
            self.assertTrue(not taken or value in MAY_BE_VALUES, value)
        for method in methods:
            self.assertFalse(any(hasattr(kind, method) for kind in OWN_VALUES), method)

    def test_walks(self):
        for place, node in self.nodes(ast.For):
            walked = {part.id for part in ast.walk(node.iter) if isinstance(part, ast.Name)}
            for inner in ast.walk(ast.Module(body=node.body, type_ignores=[])):
                if isinstance(inner, ast.Call) and isinstance(inner.func, ast.Attribute):
                    owner = inner.func.value
                    if inner.func.attr in ("append", "extend", "pop", "insert", "remove", "clear", "update"):
                        self.assertFalse(isinstance(owner, ast.Name) and owner.id in walked, place)


if __name__ == "__main__":
    unittest.main()
