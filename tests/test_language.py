"""The rules of LANGUAGE.md that can be seen from a file's text and syntax tree."""

import ast
import builtins
import os
import re
import unittest

ROOT = os.path.dirname(os.path.dirname(os.path.abspath(__file__)))
PACKAGE = os.path.join(ROOT, "namelines")

BUILTINS = set("""
    len range enumerate zip min max sum abs sorted reversed int str bool bytes list tuple dict set frozenset isinstance
    ord repr any all divmod iter next super property staticmethod classmethod NotImplemented Exception ValueError
    TypeError KeyError IndexError LookupError ZeroDivisionError ArithmeticError OverflowError RuntimeError
    NotImplementedError AttributeError StopIteration
""".split())
METHODS = set("""
    append clear copy count endswith extend find get index insert isalnum isalpha isdigit islower isspace isupper items
    join keys ljust lower lstrip partition pop remove replace reverse rfind rjust rpartition rsplit rstrip setdefault
    split splitlines startswith strip update upper values zfill bit_length title capitalize swapcase casefold center
    expandtabs removeprefix removesuffix rindex isascii isdecimal isnumeric istitle isidentifier isprintable translate
    maketrans sort add discard encode decode hex __init__
""".split())
BARRED_NAMES = set("""
    register mro elements open input version_info with_traceback add_note attrgetter breakpoint builtins compile copyright
    credits delattr dir eval exec exit gc getattr globals hasattr help id importlib license locals methodcaller os quit
    setattr type vars sys
""".split())
BARRED_WORDS = re.compile(
    r"\b(type|typing|typing_extensions|enum|Enum|IntEnum|StrEnum|Flag|IntFlag|Generic|Protocol|ABC|ABCMeta|namedtuple"
    r"|NamedTuple|TypedDict|TYPE_CHECKING|abstractmethod)\b|dataclass|overload|contextmanager")
SPECIAL = set("__init__ __eq__ __repr__ __str__ __len__ __enter__ __exit__ __call__ __iter__".split())
TOP_LEVEL = (ast.ImportFrom, ast.FunctionDef, ast.ClassDef, ast.Assign)
BARRED_SYNTAX = (ast.Global, ast.AsyncFunctionDef, ast.AsyncFor, ast.AsyncWith, ast.Await, ast.Div, ast.MatMult, ast.Import)


def sources():
    found = {}
    for name in sorted(os.listdir(PACKAGE)):
        if name.endswith(".py"):
            with open(os.path.join(PACKAGE, name), encoding="utf-8", newline="") as file:
                found[name[:-3]] = file.read()
    return found


def bound_at_top(module):
    names = []
    for part in module.body:
        if isinstance(part, ast.ImportFrom):
            names += [alias.asname or alias.name for alias in part.names]
        elif isinstance(part, (ast.FunctionDef, ast.ClassDef)):
            names.append(part.name)
        elif isinstance(part, ast.Assign):
            names += [target.id for target in part.targets]
    return names


def bound_inside(module):
    """The names of all parameters and variables of functions."""
    names = {node.arg for node in ast.walk(module) if isinstance(node, ast.arg)}
    for function in ast.walk(module):
        if isinstance(function, (ast.FunctionDef, ast.Lambda)):
            names |= {node.id for node in ast.walk(function)
                      if isinstance(node, ast.Name) and isinstance(node.ctx, ast.Store)}
    return names


def is_docstring(part):
    return isinstance(part, ast.Expr) and isinstance(part.value, ast.Constant) and isinstance(part.value.value, str)


class Language(unittest.TestCase):
    def setUp(self):
        self.texts = sources()
        self.modules = {name: ast.parse(text) for name, text in self.texts.items()}

    def nodes(self, *kinds):
        for name, module in self.modules.items():
            for node in ast.walk(module):
                if isinstance(node, kinds):
                    yield f"{name}.py:{getattr(node, 'lineno', 0)}", node

    def test_l1_l14_files(self):
        self.assertIn("__init__", self.texts)
        for name in os.listdir(PACKAGE):
            if name != "__pycache__":
                self.assertRegex(name, r"^(__init__|__main__|[a-z][a-z0-9_]*)\.py$")
                self.assertFalse(name.startswith(("test", "law_")), name)
                self.assertNotIn(name[:-3], dir(builtins))

    def test_l2_l16_imports(self):
        near = {}
        for name, module in self.modules.items():
            near[name] = []
            for part in ast.walk(module):
                if isinstance(part, ast.ImportFrom):
                    self.assertIn(part, module.body)
                    self.assertEqual(part.level, 0)
                    package, dot, file = part.module.partition(".")
                    self.assertEqual(package, "namelines")
                    defined = {node.name for node in self.modules[file].body if hasattr(node, "name")}
                    defined |= {target.id for node in self.modules[file].body if isinstance(node, ast.Assign)
                                for target in node.targets}
                    for alias in part.names:
                        self.assertIn(alias.name, defined)
                    near[name].append(file)
        while near:
            free = [name for name in near if not set(near[name]) & set(near)]
            self.assertTrue(free, "files import from each other")
            near = {name: near[name] for name in near if name not in free}

    def test_l3_l15_module_level(self):
        for name, module in self.modules.items():
            rest = module.body[1:] if module.body and is_docstring(module.body[0]) else module.body
            for part in rest:
                self.assertIsInstance(part, TOP_LEVEL, f"{name}.py:{part.lineno}")
            names = bound_at_top(module)
            self.assertEqual(len(names), len(set(names)), name)
            barred = {alias.asname or alias.name for part in module.body if isinstance(part, ast.ImportFrom)
                      for alias in part.names}
            barred |= {part.name for part in module.body if isinstance(part, ast.ClassDef)} | set(dir(builtins))
            self.assertEqual(bound_inside(module) & barred, set(), name)

    def test_l6_l7_syntax(self):
        for at, node in self.nodes(*BARRED_SYNTAX):
            self.fail(f"{at}: {type(node).__name__}")
        for at, node in self.nodes(ast.Constant):
            self.assertNotIsInstance(node.value, (float, complex), at)

    def test_l8_l25_builtins_and_methods(self):
        for name, module in self.modules.items():
            own = set(bound_at_top(module)) | bound_inside(module)
            for node in ast.walk(module):
                if isinstance(node, ast.Name) and node.id not in own:
                    self.assertIn(node.id, BUILTINS, f"{name}.py:{node.lineno}")
        defined = {node.name for at, node in self.nodes(ast.FunctionDef)}
        for at, node in self.nodes(ast.Call):
            if isinstance(node.func, ast.Attribute):
                self.assertIn(node.func.attr, METHODS | defined, at)

    def test_l10_sizes(self):
        for name, text in self.texts.items():
            lines = text.split("\n")
            self.assertLessEqual(len(lines), 400, name)
            self.assertLessEqual(max(len(line) for line in lines), 120, name)
            self.assertNotIn("\t", text, name)
        for at, node in self.nodes(ast.FunctionDef):
            self.assertLessEqual(node.end_lineno - node.lineno + 1, 40, at)

    def test_l12_l17_names(self):
        for name, module in self.modules.items():
            names = set(bound_at_top(module)) | bound_inside(module)
            names |= {node.name for node in ast.walk(module) if isinstance(node, ast.FunctionDef)} - SPECIAL
            names |= {node.attr for node in ast.walk(module) if isinstance(node, ast.Attribute)} - SPECIAL
            for word in names:
                self.assertRegex(word, r"^[A-Za-z][A-Za-z0-9_]*$", name)
            self.assertEqual(names & BARRED_NAMES, set(), name)

    def test_l14_l17_l27_characters_and_words(self):
        for name, text in self.texts.items():
            self.assertRegex(text, r"\A[ -~\n]*\Z", name)
            found = BARRED_WORDS.search(text)
            self.assertIsNone(found, f"{name}: {found}")
        for at, node in self.nodes(ast.Constant):
            if isinstance(node.value, str):
                self.assertNotIn("%", node.value, at)
                self.assertFalse(node.value.endswith(("._", ".__")), at)

    def test_l18_methods_and_attributes(self):
        methods = {node.name for at, kind in self.nodes(ast.ClassDef) for node in kind.body
                   if isinstance(node, ast.FunctionDef)}
        assigned = {node.attr for at, node in self.nodes(ast.Attribute) if isinstance(node.ctx, ast.Store)}
        self.assertEqual(methods & assigned, set())
        self.assertEqual(assigned & METHODS, set())
        called = {id(node.func) for at, node in self.nodes(ast.Call)}
        for at, node in self.nodes(ast.Attribute):
            if isinstance(node.ctx, ast.Load) and id(node) not in called:
                self.assertIn(node.attr, assigned, at)
        for at, kind in self.nodes(ast.ClassDef):
            names = [node.name for node in kind.body if isinstance(node, ast.FunctionDef)]
            self.assertEqual(len(names), len(set(names)), at)

    def test_l19_raise_makes_its_error_on_the_spot(self):
        for at, node in self.nodes(ast.Raise):
            self.assertIsInstance(node.exc, ast.Call, at)
            self.assertIsInstance(node.exc.func, ast.Name, at)
            self.assertEqual(node.exc.keywords, [], at)

    def test_l23_l24_loops(self):
        # What is iterated over isn't changed in the loop; sets are sorted or asked, not iterated over.
        changes = {"append", "clear", "extend", "insert", "pop", "remove", "reverse", "setdefault", "update", "sort"}
        for at, node in self.nodes(ast.For):
            over = ast.dump(node.iter)
            for part in ast.walk(ast.Module(node.body, [])):
                if isinstance(part, ast.Call) and isinstance(part.func, ast.Attribute) and part.func.attr in changes:
                    self.assertNotIn(ast.dump(part.func.value), over, at)
                if isinstance(part, ast.Subscript) and not isinstance(part.ctx, ast.Load):
                    self.assertNotIn(ast.dump(part.value), over, at)
        for at, node in self.nodes(ast.For, ast.comprehension):
            self.assertNotIsInstance(node.iter, (ast.Set, ast.SetComp), at)

    def test_l20_is(self):
        for at, node in self.nodes(ast.Compare):
            for sign, right in zip(node.ops, node.comparators):
                if isinstance(sign, (ast.Is, ast.IsNot)):
                    self.assertTrue(isinstance(right, ast.Constant) and right.value in (None, True, False), at)


if __name__ == "__main__":
    unittest.main()
