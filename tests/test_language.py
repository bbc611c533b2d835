"""The rules of LANGUAGE.md that can be seen in the written code; the numbers are the rules'."""

import ast
import builtins
import os
import re
import unittest

FOLDER = os.path.join(os.path.dirname(os.path.dirname(os.path.abspath(__file__))), "markworks")

NODES = tuple(getattr(ast, name) for name in """
    Module FunctionDef ClassDef Return Assign AugAssign AnnAssign For While If Raise Try ExceptHandler Assert Delete
    Expr Pass Break Continue ImportFrom alias BoolOp BinOp UnaryOp Lambda IfExp Dict Set ListComp DictComp SetComp
    comprehension Compare Call FormattedValue JoinedStr Constant Attribute Subscript Starred Name List Tuple Slice
    arguments arg keyword expr_context boolop operator unaryop cmpop""".split())
OWN = """
    len range enumerate zip min max sum abs sorted reversed int str bool bytes list tuple dict set frozenset isinstance
    ord repr any all divmod Exception ValueError TypeError KeyError IndexError LookupError ZeroDivisionError
    ArithmeticError OverflowError RuntimeError NotImplementedError AttributeError StopIteration""".split()
DOUBLE = ("__init__", "__eq__", "__repr__", "__str__", "__len__")
WORDS = re.compile(r"\b(type|typing|typing_extensions|enum|Enum|IntEnum|StrEnum|Flag|IntFlag|Generic|Protocol|ABC"
                   r"|ABCMeta|namedtuple|NamedTuple|TypedDict|TYPE_CHECKING|abstractmethod)\b"
                   r"|dataclass|overload|contextmanager")
UNUSED = """
    register mro elements open input version_info with_traceback add_note attrgetter breakpoint builtins compile
    copyright credits delattr dir eval exec exit gc getattr globals hasattr help id importlib license locals
    methodcaller os quit setattr super vars sys chr format format_map""".split()
METHODS = """
    append clear copy count endswith extend find get index insert isalnum isalpha isdigit islower isspace isupper items
    join keys ljust lower lstrip partition pop remove replace reverse rfind rjust rpartition rsplit rstrip setdefault
    split splitlines startswith strip update upper values zfill bit_length""".split()
VALUES = "count index title find get join lower upper split strip copy add".split()


def row_faults(text):
    """L10, L14, L17: signs, lengths and words."""
    found = []
    rows = text.split("\n")
    if len(rows) > 401:
        found.append("L10 file")
    for row in rows:
        if len(row) > 120:
            found.append("L10 row")
        if not all(" " <= sign <= "~" for sign in row):
            found.append("L14 sign")
        if WORDS.search(row):
            found.append("L17 word")
    return found


def name_faults(node):
    """L8, L12, L17: names."""
    names = [getattr(node, field, None) for field in ("name", "id", "attr", "arg", "asname")]
    found = []
    for name in [name for name in names if isinstance(name, str) and not isinstance(node, ast.ImportFrom)]:
        if name.startswith("_") and name not in DOUBLE:
            found.append("L12 " + name)
        if name in UNUSED:
            found.append("L17 " + name)
    if isinstance(node, ast.Name) and hasattr(builtins, node.id):
        if node.id not in OWN or not isinstance(node.ctx, ast.Load):
            found.append("L8 " + node.id)
    if isinstance(node, ast.arg) and hasattr(builtins, node.arg):
        found.append("L15 " + node.arg)
    return found


def def_faults(node):
    """L4, L5, L10: defs and classes."""
    found = []
    if isinstance(node, (ast.FunctionDef, ast.ClassDef)) and node.decorator_list:
        found.append("L4 decorator")
    if isinstance(node, ast.FunctionDef) and node.end_lineno - node.lineno >= 40:
        found.append("L10 def")
    if isinstance(node, ast.arguments) and (node.vararg or node.kwarg or node.posonlyargs):
        found.append("L4 parameters")
    if isinstance(node, ast.ClassDef):
        if len(node.bases) > 1 or node.keywords:
            found.append("L5 bases")
        for row in node.body:
            docstring = isinstance(row, ast.Expr) and isinstance(row.value, ast.Constant)
            if not docstring and not isinstance(row, ast.FunctionDef):
                found.append("L5 body")
    return found


def value_faults(node):
    """L2, L6, L7, L20, L27: rows and expressions."""
    found = []
    if not isinstance(node, NODES) or isinstance(node, (ast.Div, ast.MatMult)):
        found.append("L7 " + node.__class__.__name__)
    if isinstance(node, ast.Constant) and isinstance(node.value, (float, complex)):
        found.append("L7 float")
    if isinstance(node, ast.Constant) and isinstance(node.value, str) and "%" in node.value:
        found.append("L27 text")
    if isinstance(node, ast.FormattedValue) and node.format_spec:
        found.append("L7 braces")
    if isinstance(node, (ast.For, ast.While)) and node.orelse:
        found.append("L6 else")
    if isinstance(node, ast.BinOp) and isinstance(node.op, ast.Pow):
        if not isinstance(node.right, ast.Constant) or not 0 <= node.right.value <= 64:
            found.append("L27 power")
    if isinstance(node, ast.Compare):
        for sign, side in zip(node.ops, node.comparators):
            if isinstance(sign, (ast.Is, ast.IsNot)):
                if not isinstance(side, ast.Constant) or side.value not in (None, True, False):
                    found.append("L20 is")
    if isinstance(node, ast.ImportFrom):
        if node.level or not node.module.startswith("markworks.") or node.names[0].name == "*":
            found.append("L2 import")
    if isinstance(node, ast.ExceptHandler) and node.type is None:
        found.append("L6 except")
    return found


def faults(text):
    found = row_faults(text)
    tree = ast.parse(text)
    for node in ast.walk(tree):
        found += name_faults(node) + def_faults(node) + value_faults(node)
    return found


def hidden_names(text):
    """L15: parameters and locals that are called like a class or an import of their file."""
    tree = ast.parse(text)
    taken = [drawn.name for row in tree.body if isinstance(row, ast.ImportFrom) for drawn in row.names]
    taken += [row.name for row in tree.body if isinstance(row, ast.ClassDef)]
    given = [node.id for node in ast.walk(tree) if isinstance(node, ast.Name) and isinstance(node.ctx, ast.Store)]
    given += [node.arg for node in ast.walk(tree) if isinstance(node, ast.arg)]
    return sorted(set(taken) & set(given))


def drawn_from(text):
    return [row.module.split(".")[-1] + ".py" for row in ast.parse(text).body if isinstance(row, ast.ImportFrom)]


def asked(tree):
    """The names of all methods that are called, and of all values that are asked."""
    calls = [node.func for node in ast.walk(tree) if isinstance(node, ast.Call)]
    methods = [func.attr for func in calls if isinstance(func, ast.Attribute)]
    values = [node.attr for node in ast.walk(tree) if isinstance(node, ast.Attribute) and node not in calls
              and isinstance(node.ctx, ast.Load)]
    return methods, values


def methods_and_values(tree):
    methods = [row.name for node in ast.walk(tree) if isinstance(node, ast.ClassDef) for row in node.body
               if isinstance(row, ast.FunctionDef)]
    given = [node.attr for node in ast.walk(tree) if isinstance(node, ast.Attribute)
             and isinstance(node.ctx, ast.Store)]
    return methods, given


def read_all():
    texts = {}
    for name in sorted(os.listdir(FOLDER)):
        if name != "__pycache__":
            with open(os.path.join(FOLDER, name), encoding="ascii") as file:
                texts[name] = file.read()
    return texts


class Language(unittest.TestCase):
    def test_files(self):
        names = list(read_all())
        self.assertIn("__init__.py", names)
        for name in names:
            self.assertRegex(name, r"^(__init__|__main__|[a-z][a-z0-9_]*)\.py$")

    def test_rules(self):
        for name, text in read_all().items():
            with self.subTest(name=name):
                self.assertEqual(faults(text), [])

    def test_names_are_drawn_from_the_file_that_defines_them(self):
        texts = read_all()
        for name, text in texts.items():
            for row in [row for row in ast.parse(text).body if isinstance(row, ast.ImportFrom)]:
                source = ast.parse(texts[row.module.split(".")[-1] + ".py"])
                defined = [node.name for node in source.body if isinstance(node, (ast.FunctionDef, ast.ClassDef))]
                defined += [node.targets[0].id for node in source.body if isinstance(node, ast.Assign)]
                for drawn in row.names:
                    self.assertIn(drawn.name, defined, name)

    def test_no_name_is_a_method_and_a_value(self):
        methods, given = [], []
        for text in read_all().values():
            more = methods_and_values(ast.parse(text))
            methods += more[0]
            given += more[1]
        self.assertEqual(sorted(set(methods) & set(given)), [])

    def test_methods_and_values_that_are_asked_are_there(self):
        """L18, L25."""
        trees = [ast.parse(text) for text in read_all().values()]
        methods = [name for tree in trees for name in methods_and_values(tree)[0]]
        given = [name for tree in trees for name in methods_and_values(tree)[1]]
        for tree in trees:
            self.assertEqual(sorted(set(asked(tree)[0]) - set(methods) - set(METHODS)), [])
            self.assertEqual(sorted(set(asked(tree)[1]) - set(given)), [])

    def test_own_methods_and_values_have_free_names(self):
        """L26."""
        taken = {name for kind in (str, int, list, dict, set, bytes) for name in dir(kind)} | {"is_integer", "args"}
        for name, text in read_all().items():
            methods, given = methods_and_values(ast.parse(text))
            self.assertEqual(sorted(set(methods) & taken - set(METHODS) - set(DOUBLE) - {"add", "discard"}), [], name)
            self.assertEqual(sorted(set(given) & taken - set(VALUES)), [], name)

    def test_no_parameter_or_local_hides_a_class_or_an_import(self):
        for name, text in read_all().items():
            self.assertEqual(hidden_names(text), [], name)

    def test_no_two_files_draw_from_one_another(self):
        """L16: files that draw from none but those already set aside are set aside, until none is left."""
        left = {name: drawn_from(text) for name, text in read_all().items()}
        while left:
            free = [name for name, sources in left.items() if not set(sources) & set(left)]
            self.assertNotEqual(free, [], left)
            left = {name: sources for name, sources in left.items() if name not in free}

    def test_len_and_init_return_as_told(self):
        """L28."""
        for name, text in read_all().items():
            for node in ast.walk(ast.parse(text)):
                returns = [row.value for row in ast.walk(node) if isinstance(row, ast.Return)]
                if isinstance(node, ast.FunctionDef) and node.name == "__init__":
                    self.assertEqual(returns, [], name)
                if isinstance(node, ast.FunctionDef) and node.name == "__len__":
                    self.assertEqual([value.func.id for value in returns], ["len"], name)


class TheCheckItself(unittest.TestCase):
    def test_it_finds_what_is_barred(self):
        for text, number in (
                ("import os\n", "L7"), ("from os import path\n", "L2"), ("from .a import b\n", "L2"),
                ("x = 1 / 2\n", "L7"), ("x = 1.5\n", "L7"), ("x = y is z\n", "L20"), ("x = 2 ** y\n", "L27"),
                ("def f(*xs):\n    return xs\n", "L4"), ("@f\ndef g():\n    pass\n", "L4"),
                ("class A:\n    x = 1\n", "L5"), ("x = hash(1)\n", "L8"), ("list = 3\n", "L8"),
                ("def f(_x):\n    pass\n", "L12"), ("x = 'a%'\n", "L27"), ("# a type\n", "L17"),
                ("x = getattr(a, 'b')\n", "L17"), ("x = 1  # " + "a" * 120 + "\n", "L10"),
                ("x = sum(y for y in z)\n", "L7"), ("def f():\n" + "    f()\n" * 40, "L10"), ("#\t\n", "L14"),
                ("def f():\n    yield 1\n", "L7"), ("x = f'{y:3}'\n", "L7"), ("def f(min):\n    pass\n", "L15")):
            with self.subTest(text=text):
                self.assertIn(number, [fault.split()[0] for fault in faults(text)])

    def test_it_finds_hidden_names(self):
        self.assertEqual(hidden_names("from a.b import c, d\ndef f(c):\n    d = c\n    return d\n"), ["c", "d"])
        self.assertEqual(hidden_names("class A:\n    pass\ndef f(b):\n    A = b\n"), ["A"])
        self.assertEqual(hidden_names("from a.b import c\ndef f(d):\n    return c(d)\n"), [])

    def test_it_finds_what_is_asked(self):
        self.assertEqual(asked(ast.parse("a.b(c.d)\ne.f = 1\n")), (["b"], ["d"]))
        self.assertEqual(asked(ast.parse("e.f = g.h().i\n")), (["h"], ["i"]))

    def test_it_lets_by_what_is_allowed(self):
        text = "def f(a, *, b=1):\n    return [x for x in a if x is not None and x ** 2 > b]\n"
        self.assertEqual(faults(text), [])


if __name__ == "__main__":
    unittest.main()
