"""That the package keeps to the small part of Python it is written in, as far as its texts show it.

Each rule of the check is tried on texts that break it too, so that a rule that sees nothing is found out.
"""

import ast
import builtins
import os
import re
import unittest

import factorforge

FOLDER = os.path.dirname(os.path.abspath(factorforge.__file__))
PACKAGE = "factorforge"

ERRORS = """Exception ValueError TypeError KeyError IndexError LookupError ZeroDivisionError ArithmeticError
    OverflowError RuntimeError NotImplementedError AttributeError StopIteration""".split()
ALLOWED_NAMES = """len range enumerate zip min max sum abs sorted reversed int str bool list tuple dict set frozenset
    isinstance ord repr any all divmod object float bytes""".split() + ERRORS
OTHER_NAMES = """attrgetter breakpoint builtins compile copyright credits delattr dir eval exec exit gc getattr globals
    hasattr help id importlib license locals methodcaller os quit setattr super type vars""".split()
NEVER_NAMES = """register mro elements open input version_info with_traceback add_note f_back f_code f_globals f_locals
    tb_next tb_frame co_names co_code""".split()
NEVER_ATTRIBUTES = ["format", "format_map", "mro"]
NEVER_WORDS = """type typing typing_extensions enum Enum IntEnum StrEnum Flag IntFlag Generic Protocol ABC ABCMeta
    namedtuple NamedTuple TypedDict TYPE_CHECKING abstractmethod""".split()
NEVER_WITHIN = ["dataclass", "overload", "contextmanager"]
DUNDERS = "__init__ __eq__ __repr__ __str__ __len__ __all__ __version__ __name__".split()
NEVER_FILES = ["test", "tests", "testing", "site", "conftest", "sitecustomize", "usercustomize"]
METHODS = """append clear copy count endswith extend find get index insert isalnum isalpha isdigit islower isspace
    isupper items join keys ljust lower lstrip partition pop remove replace reverse rfind rjust rpartition rsplit
    rstrip setdefault split splitlines startswith strip update upper values zfill bit_length __init__""".split()

STATEMENTS = (
    ast.FunctionDef, ast.ClassDef, ast.Return, ast.Assign, ast.AugAssign, ast.AnnAssign, ast.For, ast.While, ast.If,
    ast.Raise, ast.Try, ast.ImportFrom, ast.Import, ast.Expr, ast.Pass, ast.Break, ast.Continue,
)
NEVER_NODES = (
    ast.SetComp, ast.DictComp, ast.GeneratorExp, ast.NamedExpr, ast.Starred, ast.Div, ast.MatMult, ast.Await,
    ast.Yield, ast.YieldFrom,
)


def package_files():
    return sorted(name for name in os.listdir(FOLDER) if name != "__pycache__")


def text_of(name):
    with open(os.path.join(FOLDER, name), encoding="utf-8", newline="") as file:
        return file.read()


def stem(name):
    return name[: -len(".py")]


def is_text(node):
    return isinstance(node, ast.Expr) and isinstance(node.value, ast.Constant) and isinstance(node.value.value, str)


# Sizes and signs (L10, L14).

def size_faults(text):
    found = []
    lines = text.split("\n")
    if len(text.splitlines()) > 400:
        found.append("L10: a file of more than 400 lines")
    for number, line in enumerate(lines, start=1):
        if len(line) > 120:
            found.append(f"L10: line {number} is longer than 120")
        if "\t" in line:
            found.append(f"L10: a tab in line {number}")
        if any(not " " <= sign <= "~" for sign in line):
            found.append(f"L14: a sign that is not from the blank to ~ in line {number}")
    for node in ast.walk(ast.parse(text)):
        if isinstance(node, ast.FunctionDef) and node.end_lineno - node.lineno + 1 > 40:
            found.append(f"L10: the function {node.name} has more than 40 lines")
    return found


# Names (L8, L12, L15, L17).

def arguments_of(node):
    return [argument.arg for argument in node.args.args]


def bound_names(tree):
    """Every name that a file gives a meaning, with the places where it does."""
    found = []
    for node in ast.walk(tree):
        if isinstance(node, ast.Name) and not isinstance(node.ctx, ast.Load):
            found.append(node.id)
        elif isinstance(node, (ast.FunctionDef, ast.ClassDef)):
            found.append(node.name)
        elif isinstance(node, ast.arg):
            found.append(node.arg)
        elif isinstance(node, ast.alias):
            found.append(node.asname or node.name)
        elif isinstance(node, ast.ExceptHandler) and node.name:
            found.append(node.name)
    return found


def methods_of(tree):
    return [node for top in tree.body if isinstance(top, ast.ClassDef) for node in top.body
            if isinstance(node, ast.FunctionDef)]


def is_plain_name(name):
    return name in DUNDERS or re.fullmatch(r"[A-Za-z][A-Za-z0-9_]*", name) is not None


def name_faults(name, text):
    tree = ast.parse(text)
    methods = [method.name for method in methods_of(tree)]
    found = []
    allowed = ALLOWED_NAMES + (["print"] if name == "__main__.py" else [])
    bound = bound_names(tree)
    for one in bound:
        if not is_plain_name(one) and one != "__future__":
            found.append(f"L12: the name {one}")
        if one not in methods and one in dir(builtins) and one not in DUNDERS:
            found.append(f"L8, L15: {one} is a name of Python's own")
    for node in ast.walk(tree):
        if isinstance(node, ast.Attribute):
            if node.attr in NEVER_ATTRIBUTES + NEVER_NAMES or not is_plain_name(node.attr):
                found.append(f"L8, L12, L17: the attribute {node.attr}")
        elif isinstance(node, ast.Name):
            if node.id in dir(builtins) and node.id not in allowed and node.id not in DUNDERS:
                found.append(f"L8: the name {node.id} of Python's own")
    names = bound + [node.id for node in ast.walk(tree) if isinstance(node, ast.Name)]
    for one in names:
        if one in OTHER_NAMES + NEVER_NAMES:
            found.append(f"L17: the name {one}")
    for word in NEVER_WORDS:
        if re.search(rf"\b{word}\b", text):
            found.append(f"L17: the word {word}")
    return found + [f"L17: {part} within a word" for part in NEVER_WITHIN if part in text]


def local_name_faults(text):
    """L15: no parameter and no local is called like a class or an import of its file, no name is bound twice at top."""
    tree = ast.parse(text)
    found = []
    tops = top_names(tree) + imported_names(tree)
    for one in sorted(set(tops)):
        if tops.count(one) > 1:
            found.append(f"L15: {one} is bound twice at the file's top")
    taken = [node.name for node in tree.body if isinstance(node, ast.ClassDef)] + imported_names(tree)
    for function in [node for node in ast.walk(tree) if isinstance(node, ast.FunctionDef)]:
        inner = [node.id for node in ast.walk(function)
                 if isinstance(node, ast.Name) and isinstance(node.ctx, ast.Store)]
        for one in arguments_of(function) + inner:
            if one in taken:
                found.append(f"L15: {one} in {function.name} is called like a class or an import")
    return found


# Imports (L2, L16).

def top_names(tree):
    found = []
    for node in tree.body:
        if isinstance(node, (ast.FunctionDef, ast.ClassDef)):
            found.append(node.name)
        elif isinstance(node, ast.Assign):
            found += [target.id for target in node.targets if isinstance(target, ast.Name)]
        elif isinstance(node, ast.AnnAssign) and isinstance(node.target, ast.Name):
            found.append(node.target.id)
    return found


def imported_names(tree):
    return [alias.asname or alias.name for node in tree.body if isinstance(node, ast.ImportFrom)
            if node.module != "__future__" for alias in node.names]


def import_faults(name, text, texts):
    tree = ast.parse(text)
    found = []
    for node in ast.walk(tree):
        if isinstance(node, (ast.Import, ast.ImportFrom)) and node not in tree.body:
            found.append(f"L2: line {node.lineno}: an import that is not at the top")
        if isinstance(node, ast.Import):
            if name != "__main__.py" or [alias.name for alias in node.names] != ["sys"]:
                found.append(f"L16: line {node.lineno}: not from .. import ..")
        if isinstance(node, ast.ImportFrom):
            found += from_faults(node, texts)
    return found


def from_faults(node, texts):
    names = [alias.name for alias in node.names]
    if node.level == 0 and node.module == "__future__" and names == ["annotations"]:
        return []
    source = (node.module or "").removeprefix(PACKAGE + ".") + ".py"
    if node.level != 0 or source not in texts or node.module == PACKAGE or not node.module.startswith(PACKAGE + "."):
        return [f"L2: line {node.lineno}: not a module of the package by its full name"]
    if source == "__main__.py":
        return [f"L2: line {node.lineno}: __main__ is imported"]
    missing = [one for one in names if one not in top_names(ast.parse(texts[source]))]
    return [f"L16: line {node.lineno}: {one} is not defined in {source}" for one in missing]


def drawn_from(text):
    found = [node.module.removeprefix(PACKAGE + ".") + ".py" for node in ast.walk(ast.parse(text))
             if isinstance(node, ast.ImportFrom) and (node.module or "").startswith(PACKAGE + ".")]
    return found + ["__init__.py"] if found else []


def draws_in_a_ring(texts):
    """The files that draw from themselves in some number of steps."""
    found = []
    for name in texts:
        reached = []
        waiting = drawn_from(texts[name])
        while waiting:
            one = waiting.pop()
            if one not in reached:
                reached.append(one)
                waiting += drawn_from(texts.get(one, ""))
        if name in reached:
            found.append(name)
    return found


# Forms (L3 to L7, L20, L25, L27).

def top_faults(name, text):
    found = []
    for at, node in enumerate(ast.parse(text).body):
        plain = isinstance(node, (ast.ImportFrom, ast.Import, ast.FunctionDef, ast.ClassDef, ast.Assign, ast.AnnAssign))
        if not plain and not (at == 0 and is_text(node)) and not (name == "__main__.py" and isinstance(node, ast.If)):
            found.append(f"L3: line {node.lineno} at the file's top")
    return found


def def_faults(tree):
    found = []
    for node in ast.walk(tree):
        if isinstance(node, (ast.FunctionDef, ast.Lambda)):
            given = node.args
            if given.vararg or given.kwarg or given.kwonlyargs or given.posonlyargs:
                found.append(f"L4: line {node.lineno}: a parameter that is not plain")
        if isinstance(node, (ast.FunctionDef, ast.ClassDef)) and node.decorator_list:
            found.append(f"L4, L5: line {node.lineno}: a decorator")
        if isinstance(node, ast.ClassDef):
            if len(node.bases) > 1 or node.keywords or node not in tree.body:
                found.append(f"L5, L15: line {node.lineno}: the class's bases or place")
            for one in node.body:
                if not isinstance(one, (ast.FunctionDef, ast.Pass)) and not is_text(one):
                    found.append(f"L5: line {one.lineno}: a value in a class")
    return found


def statement_faults(tree):
    found = []
    for node in ast.walk(tree):
        if isinstance(node, ast.stmt) and not isinstance(node, STATEMENTS):
            found.append(f"L6: line {node.lineno}")
        if isinstance(node, (ast.For, ast.While)) and node.orelse:
            found.append(f"L6: line {node.lineno}: else behind a loop")
        if isinstance(node, ast.Try) and (node.finalbody or any(one.type is None for one in node.handlers)):
            found.append(f"L6: line {node.lineno}: finally, or except without a name")
        if isinstance(node, ast.Assign) and len(node.targets) > 1:
            found.append(f"L6: line {node.lineno}: several targets")
        if isinstance(node, ast.Expr) and not isinstance(node.value, ast.Call) and not is_text(node):
            found.append(f"L6: line {node.lineno}: a value by itself")
    return found


def is_small_number(node):
    return isinstance(node, ast.Constant) and isinstance(node.value, int) and 0 <= node.value <= 64


def value_faults(tree):
    found = []
    for node in ast.walk(tree):
        if isinstance(node, NEVER_NODES):
            found.append(f"L7: {node.__class__.__name__}")
        if isinstance(node, ast.Constant) and isinstance(node.value, (float, complex, bytes)):
            found.append(f"L7: line {node.lineno}: a float, a complex number or bytes")
        if isinstance(node, ast.Constant) and isinstance(node.value, str) and "%" in node.value:
            found.append(f"L27: line {node.lineno}: the percent sign in a text")
        if isinstance(node, (ast.BinOp, ast.AugAssign)) and isinstance(node.op, ast.Pow):
            if not is_small_number(node.right if isinstance(node, ast.BinOp) else node.value):
                found.append(f"L27: line {node.lineno}: an exponent that is not written")
        if isinstance(node, ast.ListComp) and (len(node.generators) > 1 or len(node.generators[0].ifs) > 1):
            found.append(f"L7: line {node.lineno}: a comprehension of several")
        if isinstance(node, ast.FormattedValue):
            if not isinstance(node.value, ast.Name) or node.format_spec or node.conversion not in (-1, ord("r")):
                found.append(f"L7: line {node.lineno}: an f-string with more than a name")
        if isinstance(node, ast.Compare):
            found += is_faults(node)
    return found


def is_faults(node):
    sides = [node.left] + node.comparators
    found = []
    for at, how in enumerate(node.ops):
        if isinstance(how, (ast.Is, ast.IsNot)):
            plain = [side for side in sides[at:at + 2] if isinstance(side, ast.Constant)
                     if side.value in (None, True, False)]
            if not plain:
                found.append(f"L20: line {node.lineno}: is beside something else")
    return found


def form_faults(text):
    tree = ast.parse(text)
    return def_faults(tree) + statement_faults(tree) + value_faults(tree)


def own_methods_and_values(texts):
    methods = []
    values = []
    for text in texts.values():
        tree = ast.parse(text)
        methods += [method.name for method in methods_of(tree)]
        values += [node.attr for node in ast.walk(tree)
                   if isinstance(node, ast.Attribute) and isinstance(node.ctx, ast.Store)]
    return methods, values


def method_faults(texts):
    methods, values = own_methods_and_values(texts)
    found = [f"L18: {one} is a method and a value" for one in sorted(set(methods) & set(values))]
    for name, text in texts.items():
        tree = ast.parse(text)
        for top in [node for node in tree.body if isinstance(node, ast.ClassDef)]:
            own = [node.name for node in top.body if isinstance(node, ast.FunctionDef)]
            found += [f"L18: {one} stands twice in {top.name}" for one in sorted(set(own)) if own.count(one) > 1]
        for node in ast.walk(tree):
            if isinstance(node, ast.Call) and isinstance(node.func, ast.Attribute):
                if node.func.attr not in METHODS + methods + values and name != "__main__.py":
                    found.append(f"L25: {name}, line {node.lineno}: the method {node.func.attr}")
    return found


def file_name_faults(name):
    if name in ("__init__.py", "__main__.py"):
        return []
    if not re.fullmatch(r"[a-z][a-z0-9_]*\.py", name):
        return [f"L1, L14: the file {name}"]
    if stem(name) in NEVER_FILES + NEVER_WORDS + dir(builtins) or name.startswith("test_"):
        return [f"L14: the file {name}"]
    return []


def file_faults(name, text, texts):
    found = file_name_faults(name) + size_faults(text) + name_faults(name, text) + local_name_faults(text)
    return found + import_faults(name, text, texts) + top_faults(name, text) + form_faults(text)


def package_texts():
    return {name: text_of(name) for name in package_files() if name.endswith(".py")}


class TestPackage(unittest.TestCase):
    def test_the_folder_holds_program_files_alone(self):
        self.assertEqual(os.path.basename(FOLDER), PACKAGE)
        for name in package_files():
            self.assertTrue(os.path.isfile(os.path.join(FOLDER, name)), name)
            self.assertEqual(file_name_faults(name), [])
        self.assertIn("__init__.py", package_files())

    def test_each_file_keeps_to_the_rules(self):
        texts = package_texts()
        for name, text in texts.items():
            with self.subTest(name):
                self.assertEqual(file_faults(name, text, texts), [])

    def test_the_files_keep_to_the_rules_together(self):
        self.assertEqual(draws_in_a_ring(package_texts()), [])
        self.assertEqual(method_faults(package_texts()), [])

    def test_the_package_itself_binds_no_name_of_its_files(self):
        stems = [stem(name) for name in package_files() if name.endswith(".py")]
        for one in bound_names(ast.parse(text_of("__init__.py"))):
            self.assertNotIn(one, stems)


GOOD = '''"""A file that keeps to the rules."""

from factorforge.other import Other, other_name

SIGNS = ("+", "-")


class Box(Other):
    def __init__(self, width):
        Other.__init__(self)
        self.width = width

    def doubled(self, often=2):
        if self.width is None:
            raise ValueError("no width")
        return [often * one for one in range(self.width) if one != 2]


def named(box):
    width = box.width
    return f"{width}" + other_name(box.doubled(), 10 ** 6)
'''

TEXTS = {"other.py": "class Other:\n    def __init__(self):\n        pass\n\n\ndef other_name(a, b):\n    return a\n",
         "__init__.py": '"""."""\n', "__main__.py": "", "box.py": GOOD}

BROKEN = {
    "L10": ["a = 1\n" * 401, "a = 1  # " + "x" * 120 + "\n", "def f():\n\treturn 1\n",
            "def f():\n" + "    a = 1\n" * 40],
    "L14": ["a = 'caf\u00e9'\n", "a = 1  # \u2013\n", "a = 1\r\n"],
    "L8": ["a = map\n", "def f(x):\n    return pow(x, 2)\n", "def f(x):\n    print(x)\n", "a = chr\n",
           "def f(x):\n    return x.format(1)\n"],
    "L15": ["def f(hash):\n    return hash\n", "def f():\n    id = 1\n    return id\n",
            "def f():\n    pass\n\n\nf = 1\n", "class A:\n    pass\n\n\ndef f(A):\n    return A\n",
            "from factorforge.other import Other\n\n\ndef f():\n    Other = 1\n    return Other\n"],
    "L12": ["def _hidden():\n    pass\n", "def f(_x):\n    return 1\n", "a_ = _b = 1\n",
            "def f(x):\n    return x.__dict__\n", "def f(x):\n    for _ in x:\n        pass\n"],
    "L17": ["a = 1  # the type of it\n", "def f(x):\n    return x.open\n", "a = vars\n", "a = 1  # overloaded\n",
            "def register():\n    pass\n"],
    "L2": ["from math import gcd\n", "from .other import Other\n", "from factorforge import other\n",
           "from factorforge.missing import a\n", "from factorforge.__main__ import a\n",
           "def f():\n    from factorforge.other import Other\n"],
    "L16": ["import math\n", "import factorforge.other\n", "import sys\n", "from factorforge.other import absent\n",
            "from factorforge.other import *\n"],
    "L3": ["print(1)\n", "for a in [1]:\n    pass\n", "a = 1\n'text'\n", "if True:\n    a = 1\n"],
    "L4": ["def f(*a):\n    pass\n", "def f(**a):\n    pass\n", "def f(*, a):\n    pass\n",
           "@len\ndef f():\n    pass\n"],
    "L5": ["class A(int, str):\n    pass\n", "class A:\n    b = 1\n", "def f():\n    class A:\n        pass\n"],
    "L6": ["def f(x):\n    with x:\n        pass\n", "def f(x):\n    assert x\n", "def f(x):\n    del x\n",
           "def f(x):\n    a = b = x\n", "def f(x):\n    while x:\n        pass\n    else:\n        pass\n",
           "def f(x):\n    try:\n        x()\n    finally:\n        pass\n", "def f(x):\n    x\n",
           "def f(x):\n    try:\n        x()\n    except:\n        pass\n"],
    "L7": ["a = 0.5\n", "a = b'x'\n", "def f(x):\n    return x / 2\n", "def f(x):\n    return {a for a in x}\n",
           "def f(x):\n    return sum(a for a in x)\n", "def f(x):\n    return [a for b in x for a in b]\n",
           "def f(x):\n    return f'{x + 1}'\n", "def f(x):\n    return f'{x:3}'\n", "def f(x):\n    yield x\n",
           "def f(x):\n    return [*x]\n", "def f(x):\n    return (y := x)\n"],
    "L20": ["def f(x):\n    return x is 3\n", "def f(x, y):\n    return x is not y\n"],
    "L27": ["def f(x):\n    return 2 ** x\n", "def f(x):\n    return x ** 65\n", "a = '5 %'\n"],
}


class TestTheCheckItself(unittest.TestCase):
    def test_what_keeps_to_the_rules(self):
        self.assertEqual(file_faults("box.py", GOOD, TEXTS), [])
        self.assertEqual(method_faults(TEXTS), [])
        self.assertEqual(draws_in_a_ring(TEXTS), [])
        started = "import sys\n\nif __name__ == '__main__':\n    print(1)\n"
        self.assertEqual(file_faults("__main__.py", started, TEXTS), [])

    def test_what_breaks_them(self):
        for rule, texts in BROKEN.items():
            for text in texts:
                with self.subTest(rule, text=text[:200]):
                    found = " ".join(file_faults("box.py", text, TEXTS))
                    self.assertRegex(found, rf"\b{rule}\b")

    def test_file_names(self):
        for name in ("Box.py", "box.txt", "box-a.py", "len.py", "test_box.py", "tests.py", "enum.py", "_box.py"):
            self.assertNotEqual(file_name_faults(name), [], name)
        for name in ("box.py", "box2.py", "__init__.py", "__main__.py", "whole_box.py"):
            self.assertEqual(file_name_faults(name), [], name)

    def test_rings(self):
        one = "from factorforge.b import x\n\na = 1\n"
        other = "from factorforge.a import a\n\nx = 1\n"
        self.assertEqual(draws_in_a_ring({"a.py": one, "b.py": other}), ["a.py", "b.py"])
        through_the_package = {"a.py": one, "b.py": "x = 1\n", "__init__.py": other}
        self.assertEqual(draws_in_a_ring(through_the_package), ["a.py", "__init__.py"])
        self.assertEqual(draws_in_a_ring({"a.py": one, "b.py": "x = 1\n", "__init__.py": ""}), [])

    def test_methods(self):
        twice = {"a.py": "class A:\n    def f(self):\n        pass\n\n    def f(self):\n        pass\n"}
        both = {"a.py": "class A:\n    def f(self):\n        pass\n", "b.py": "def g(x):\n    x.f = 1\n"}
        foreign = {"a.py": "def g(x):\n    return x.sort()\n"}
        for texts, rule in ((twice, "L18"), (both, "L18"), (foreign, "L25")):
            self.assertRegex(" ".join(method_faults(texts)), rule)


if __name__ == "__main__":
    unittest.main()
