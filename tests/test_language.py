"""The package keeps to the small part of Python of ../shared/LANGUAGE.md, as far as its written form shows."""

import ast
import builtins
import pathlib
import re
import unittest

PACKAGE = pathlib.Path(__file__).resolve().parent.parent / "cellships"

STATEMENTS = (ast.FunctionDef, ast.ClassDef, ast.Return, ast.Assign, ast.AugAssign, ast.For, ast.While, ast.If,
              ast.Raise, ast.Try, ast.Import, ast.ImportFrom, ast.Expr, ast.Pass, ast.Break, ast.Continue,
              ast.Assert, ast.Delete)
EXPRESSIONS = (ast.BoolOp, ast.BinOp, ast.UnaryOp, ast.IfExp, ast.Dict, ast.Set, ast.ListComp, ast.SetComp,
               ast.DictComp, ast.Compare, ast.Call, ast.JoinedStr, ast.FormattedValue, ast.Constant,
               ast.Attribute, ast.Subscript, ast.Name, ast.List, ast.Tuple, ast.Slice, ast.Lambda, ast.Starred)
OWN_NAMES = set(
    "len range enumerate zip min max sum abs sorted reversed int str bool bytes list tuple dict set frozenset "
    "isinstance ord repr any all divmod Exception ValueError TypeError KeyError IndexError LookupError "
    "ZeroDivisionError ArithmeticError OverflowError RuntimeError NotImplementedError AttributeError "
    "StopIteration".split())
METHODS = set(
    "append clear copy count endswith extend find get index insert isalnum isalpha isdigit islower isspace "
    "isupper items join keys ljust lower lstrip partition pop remove replace reverse rfind rjust rpartition "
    "rsplit rstrip setdefault split splitlines startswith strip update upper values zfill bit_length sort add "
    "discard title capitalize swapcase casefold center removeprefix removesuffix rindex isascii isdecimal "
    "isnumeric istitle isidentifier isprintable".split())
WORDS = ("type typing typing_extensions enum Enum IntEnum StrEnum Flag IntFlag Generic Protocol ABC ABCMeta "
         "namedtuple NamedTuple TypedDict TYPE_CHECKING abstractmethod").split()
UNUSED = set(
    "register mro elements open input version_info with_traceback add_note attrgetter breakpoint builtins "
    "compile copyright credits delattr dir eval exec exit gc getattr globals hasattr help id importlib license "
    "locals methodcaller os quit setattr super type vars sys".split())


def files():
    return sorted(PACKAGE.glob("*.py"))


def bound_names(tree):
    """All names that a file gives: of defs, classes, parameters, locals, handlers."""
    for node in ast.walk(tree):
        if isinstance(node, (ast.FunctionDef, ast.ClassDef)):
            yield node.name
        elif isinstance(node, ast.arg):
            yield node.arg
        elif isinstance(node, ast.Name) and not isinstance(node.ctx, ast.Load):
            yield node.id
        elif isinstance(node, ast.ExceptHandler) and node.name:
            yield node.name


def local_names(tree):
    """The names of parameters, locals and handlers."""
    for node in ast.walk(tree):
        if isinstance(node, ast.FunctionDef):
            inner = ast.Module(body=node.body, type_ignores=[])
            yield from [parameter.arg for parameter in node.args.args + node.args.kwonlyargs]
            yield from bound_names(inner)


class LanguageTest(unittest.TestCase):

    def trees(self):
        for path in files():
            text = path.read_text(encoding="utf-8")
            with self.subTest(path.name):
                yield path, text, ast.parse(text)

    def test_files_alone_with_plain_names(self):
        for path in PACKAGE.iterdir():
            if path.name != "__pycache__":
                self.assertRegex(path.name, r"\A([a-z][a-z0-9_]*|__init__|__main__)\.py\Z")
                self.assertNotIn(path.stem, dir(builtins))
        self.assertTrue((PACKAGE / "__init__.py").is_file())

    def test_sizes_and_signs(self):
        for path, text, tree in self.trees():
            rows = text.split("\n")
            self.assertLessEqual(len(rows), 401)
            self.assertLessEqual(max(map(len, rows)), 120)
            self.assertRegex(text, r"\A[\n -~]*\Z")
            for node in ast.walk(tree):
                if isinstance(node, ast.FunctionDef):
                    self.assertLessEqual(node.end_lineno - node.lineno + 1, 40, node.name)

    def test_words_that_stand_nowhere(self):
        for path, text, tree in self.trees():
            found = re.findall(r"\b(?:" + "|".join(WORDS) + r")\b|dataclass|overload|contextmanager", text)
            self.assertEqual(found, [])

    def test_statements_and_expressions(self):
        for path, text, tree in self.trees():
            for node in ast.walk(tree):
                if isinstance(node, ast.stmt):
                    self.assertIsInstance(node, STATEMENTS, getattr(node, "lineno", 0))
                if isinstance(node, ast.expr):
                    self.assertIsInstance(node, EXPRESSIONS, getattr(node, "lineno", 0))
                self.assertNotIsInstance(node, (ast.Div, ast.MatMult))
                self.assertEqual(getattr(node, "decorator_list", []), [])
                if isinstance(node, ast.arguments):
                    self.assertIsNone(node.vararg or node.kwarg)
                    self.assertEqual(node.posonlyargs, [])

    def test_written_values(self):
        for path, text, tree in self.trees():
            for node in ast.walk(tree):
                if isinstance(node, ast.Constant):
                    self.assertIn(type(node.value).__name__, ("int", "str", "bool", "NoneType", "bytes"))
                if isinstance(node, ast.Constant) and isinstance(node.value, str):
                    self.assertNotIn("%", node.value)
                if isinstance(node, ast.BinOp) and isinstance(node.op, ast.Pow):
                    self.assertIn(getattr(node.right, "value", None), range(65))
                if isinstance(node, ast.Compare) and isinstance(node.ops[0], (ast.Is, ast.IsNot)):
                    self.assertIn(getattr(node.comparators[0], "value", 0), (None, True, False))

    def test_imports(self):
        for path, text, tree in self.trees():
            for node in ast.walk(tree):
                self.assertNotIsInstance(node, ast.Import)
                if isinstance(node, ast.ImportFrom):
                    self.assertIn(node, tree.body)
                    self.assertEqual(node.level, 0)
                    self.assertRegex(node.module, r"\Acellships\.[a-z]+\Z")
                    drawn = (PACKAGE / (node.module.split(".")[1] + ".py")).read_text(encoding="utf-8")
                    for name in node.names:
                        self.assertRegex(drawn, rf"(?m)^(def|class) {name.name}\b|^{name.name} = ")

    def test_no_two_files_draw_from_one_another(self):
        drawn = {path.stem: [node.module.split(".")[1] for node in tree.body if isinstance(node, ast.ImportFrom)]
                 for path, text, tree in self.trees()}
        done = []
        while len(done) < len(drawn):
            ready = [name for name in drawn if name not in done and set(drawn[name]) <= set(done)]
            self.assertTrue(ready, "files draw from one another")
            done += ready

    def test_names(self):
        for path, text, tree in self.trees():
            for name in bound_names(tree):
                if name not in ("__init__", "__eq__", "__repr__", "__str__", "__len__"):
                    self.assertRegex(name, r"\A[A-Za-z][A-Za-z0-9_]*\Z")
                self.assertNotIn(name, UNUSED)

    def test_locals_hide_nothing(self):
        for path, text, tree in self.trees():
            hidden = set(dir(builtins))
            for node in tree.body:
                if isinstance(node, ast.ClassDef):
                    hidden.add(node.name)
                if isinstance(node, ast.ImportFrom):
                    hidden.update(name.asname or name.name for name in node.names)
            self.assertEqual(sorted(set(local_names(tree)) & hidden), [])

    def test_pythons_own_names_and_methods(self):
        for path, text, tree in self.trees():
            for node in ast.walk(tree):
                if isinstance(node, ast.Name) and hasattr(builtins, node.id):
                    self.assertIn(node.id, OWN_NAMES)
                if isinstance(node, ast.Call) and isinstance(node.func, ast.Attribute):
                    own = re.search(rf"(?m)^    def {node.func.attr}\b", text)
                    self.assertTrue(own or node.func.attr in METHODS, node.func.attr)

    def test_what_is_walked_at_once_is_not_kept(self):
        for path, text, tree in self.trees():
            for node in ast.walk(tree):
                if isinstance(node, (ast.Assign, ast.Return)) and isinstance(node.value, ast.Call):
                    called = node.value.func
                    name = called.id if isinstance(called, ast.Name) else called.attr
                    self.assertNotIn(name, ("range", "zip", "enumerate", "reversed", "items", "keys", "values", "set"))

    def test_the_top_of_a_file(self):
        for path, text, tree in self.trees():
            self.assertTrue(ast.get_docstring(tree))
            names = []
            for node in tree.body[1:]:
                self.assertIsInstance(node, (ast.ImportFrom, ast.FunctionDef, ast.ClassDef, ast.Assign))
                if isinstance(node, ast.ImportFrom):
                    names += [name.asname or name.name for name in node.names]
                elif isinstance(node, ast.Assign):
                    names += [target.id for target in node.targets]
                else:
                    names.append(node.name)
            self.assertEqual(sorted(names), sorted(set(names)))


if __name__ == "__main__":
    unittest.main()
