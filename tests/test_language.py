"""The rules of LANGUAGE.md that a look at the files of the package can tell."""

import ast
import builtins
import io
import re
import tokenize
import unittest
from pathlib import Path

ROOT = Path(__file__).resolve().parent.parent / "evencoins"
LIBRARY = {
    "heapq": {"heappush", "heappop", "heapify", "heapreplace", "heappushpop"},
    "math": {"gcd", "lcm", "isqrt", "comb", "perm", "factorial"},
    "itertools": {"product", "combinations", "permutations", "chain", "accumulate", "pairwise", "islice",
                  "zip_longest"},
    "collections": {"defaultdict"},
    "__future__": {"annotations"},
}
BUILTINS = set("""len range enumerate zip min max sum abs sorted reversed int str bool bytes list tuple dict set
frozenset isinstance ord repr any all divmod pow getattr hasattr setattr iter next map super property staticmethod
classmethod Exception ValueError TypeError KeyError IndexError LookupError ZeroDivisionError ArithmeticError
OverflowError RuntimeError
NotImplementedError AttributeError StopIteration NotImplemented print float object""".split())
CAUGHT = {"KeyError", "ZeroDivisionError", "StopIteration", "ValueError", "LookupError", "IndexError"}
METHODS = set("""append clear copy count endswith extend find get index insert isalnum isalpha isdigit islower isspace
isupper items join keys ljust lower lstrip partition pop remove replace reverse rfind rjust rpartition rsplit rstrip
setdefault split splitlines startswith strip update upper values zfill bit_length title capitalize swapcase casefold
center expandtabs removeprefix removesuffix rindex isascii isdecimal isnumeric istitle isidentifier isprintable
translate maketrans encode decode hex from_bytes sort add discard format from_iterable""".split())
SPECIAL = set("""__init__ __eq__ __repr__ __str__ __len__ __enter__ __exit__ __call__ __iter__ __lt__ __le__ __gt__
__ge__ __ne__ __add__ __sub__ __mul__ __floordiv__ __mod__ __pow__ __and__ __or__ __xor__ __lshift__ __rshift__ __radd__
__rsub__ __rmul__ __rfloordiv__ __rmod__ __rand__ __ror__ __rxor__ __rlshift__ __rrshift__ __iadd__ __isub__ __imul__
__ifloordiv__ __imod__ __ipow__ __iand__ __ior__ __ixor__ __ilshift__ __irshift__ __neg__ __pos__ __invert__ __abs__
__bool__ __contains__ __getitem__ __setitem__ __slots__""".split())
BARRED_NAMES = set("register mro elements open input law version_info with_traceback add_note f_back tb_next".split())
BARRED_VARIABLES = set("""attrgetter breakpoint builtins compile copyright credits delattr dir eval exec exit gc globals
help id importlib license locals methodcaller os quit type vars""".split())
BARRED_WORDS = re.compile(
    r"\b(type|typing|typing_extensions|enum|Enum|IntEnum|StrEnum|Flag|IntFlag|Generic|Protocol|ABC|ABCMeta|namedtuple|"
    r"NamedTuple|TypedDict|TYPE_CHECKING|abstractmethod)\b|dataclass|overload|contextmanager")
FILE_WORDS = {"test", "tests", "testing", "site", "conftest", "sitecustomize", "usercustomize"}
OWN_LIKE_BUILTIN = set("""append clear copy count endswith extend find get index insert isalnum isalpha isdigit islower
isspace isupper items join keys ljust lower lstrip partition pop remove replace reverse rfind rjust rpartition rsplit
rstrip setdefault split splitlines startswith strip update upper values zfill bit_length add discard title""".split())
CHANGING = {"append", "clear", "extend", "insert", "pop", "remove", "reverse", "setdefault", "update", "sort", "add"}
STATEMENTS = (ast.FunctionDef, ast.ClassDef, ast.ImportFrom, ast.Import, ast.Assign, ast.AnnAssign)


class Facts:
    """What the rules must know of the whole package."""

    def __init__(self, trees):
        nodes = [node for tree in trees for node in ast.walk(tree)]
        classes = [node for node in nodes if isinstance(node, ast.ClassDef)]
        self.methods = set(part.name for node in classes for part in node.body if isinstance(part, ast.FunctionDef))
        self.attributes = set(node.attr for node in nodes
                              if isinstance(node, ast.Attribute) and isinstance(node.ctx, ast.Store))
        self.values = set(target.id for node in classes for part in node.body if isinstance(part, ast.Assign)
                          for target in part.targets if isinstance(target, ast.Name))
        self.classes = set(node.name for node in classes)
        parts = [part for node in classes for part in node.body if isinstance(part, ast.FunctionDef)]
        decorated = {part: [ast.unparse(decorator) for decorator in part.decorator_list] for part in parts}
        # Without its setter a property is assigned nowhere, whatever object has the attribute.
        self.properties = set(part.name for part in parts if decorated[part] == ["property"]) - set(
            part.name for part in parts if decorated[part] == [part.name + ".setter"])
        self.plain_methods = set(part.name for part in parts if decorated[part] != ["property"])
        self.compares = "__eq__" in self.methods


def called(node):
    """The bare name that a call calls, or None."""
    return node.func.id if isinstance(node, ast.Call) and isinstance(node.func, ast.Name) else None


def documented(tree):
    """The docstring nodes."""
    found = set()
    for node in ast.walk(tree):
        if isinstance(node, (ast.Module, ast.ClassDef, ast.FunctionDef)) and node.body:
            text = node.body[0].value if isinstance(node.body[0], ast.Expr) else None
            if isinstance(text, ast.Constant) and isinstance(text.value, str):
                found.add(text)
    return found


def bound(tree):
    """All names that a file binds somewhere."""
    found = set()
    for node in ast.walk(tree):
        if isinstance(node, ast.Name) and isinstance(node.ctx, (ast.Store, ast.Del)):
            found.add(node.id)
        elif isinstance(node, (ast.FunctionDef, ast.ClassDef)):
            found.add(node.name)
        elif isinstance(node, ast.arg):
            found.add(node.arg)
        elif isinstance(node, ast.alias):
            found.add(node.asname or node.name)
        elif isinstance(node, ast.ExceptHandler) and node.name:
            found.add(node.name)
        elif isinstance(node, (ast.MatchAs, ast.MatchStar)) and node.name:
            found.add(node.name)
    return found


def text_rules(source):
    lines = source.split("\n")
    if len(lines) - 1 > 399:
        yield 1, "L10 file"
    for number, line in enumerate(lines, 1):
        if len(line) > 120:
            yield number, "L10 line"
        if any(not " " <= character <= "~" for character in line):
            yield number, "L14 character"
    if "_wall" in re.findall(r"\b_wall\w*", source):
        yield 1, "L12 word"
    for token in tokenize.generate_tokens(io.StringIO(source).readline):
        if tokenize.tok_name[token.type] in ("STRING", "FSTRING_MIDDLE"):
            if set(re.findall(r"\\(.)", token.string, re.DOTALL)) - set("nt\\'\"\n") and token.string[0] not in "bBrR":
                yield token.start[0], "L27 escape"


def shape_rules(tree, main):
    docs = documented(tree)
    seen = set()
    for index, node in enumerate(tree.body):
        doc = isinstance(node, ast.Expr) and node.value in docs
        if not isinstance(node, STATEMENTS) and not doc and not (main and isinstance(node, ast.If)):
            yield node.lineno, "L3 statement"
        if isinstance(node, (ast.Assign, ast.AnnAssign)):
            targets = node.targets if isinstance(node, ast.Assign) else [node.target]
            if len(targets) != 1 or not isinstance(targets[0], ast.Name) or node.value is None:
                yield node.lineno, "L3 target"
            if any(isinstance(part, (ast.Call, ast.ListComp, ast.DictComp, ast.SetComp, ast.Set, ast.Lambda))
                   for part in ast.walk(node)):
                yield node.lineno, "L3 value"
        if isinstance(node, (ast.Import, ast.ImportFrom)) and any(
                not isinstance(ahead, (ast.Import, ast.ImportFrom, ast.Expr)) for ahead in tree.body[:index]):
            yield node.lineno, "L2 top"
        names = bound(ast.Module([node], [])) if isinstance(node, (ast.Assign, ast.Import, ast.ImportFrom)) else set()
        names = {node.name} if isinstance(node, (ast.FunctionDef, ast.ClassDef)) else names
        for name in names & seen:
            yield node.lineno, "L15 twice " + name
        seen |= names
    for node in ast.walk(tree):
        if isinstance(node, ast.ClassDef) and node not in tree.body:
            yield node.lineno, "L15 nested class"
        if isinstance(node, (ast.Import, ast.ImportFrom)) and node not in tree.body:
            yield node.lineno, "L2 nested import"


def function_rules(tree):
    methods = set(part for node in ast.walk(tree) if isinstance(node, ast.ClassDef) for part in node.body)
    for node in ast.walk(tree):
        if isinstance(node, ast.FunctionDef):
            if node.end_lineno - node.lineno + 1 > 40:
                yield node.lineno, "L10 function"
            if node.decorator_list and node not in methods:
                yield node.lineno, "L4 decorator"
            for decorator in node.decorator_list:
                if ast.unparse(decorator) not in ("property", "staticmethod", "classmethod", node.name + ".setter"):
                    yield node.lineno, "L4 decorator"
            for default in node.args.defaults + [part for part in node.args.kw_defaults if part is not None]:
                if any(isinstance(part, (ast.Call, ast.List, ast.Dict, ast.Set, ast.Lambda))
                       for part in ast.walk(default)):
                    yield node.lineno, "L4 default"
            if node.name.startswith("__") and (node.name not in SPECIAL or node not in methods):
                yield node.lineno, "L5 method"
            returned = [part for part in ast.walk(node) if isinstance(part, ast.Return) and part.value is not None]
            if node.name == "__init__" and returned:
                yield node.lineno, "L28 return"
            if node.name in ("__len__", "__str__", "__repr__") and not isinstance(node.body[-1], ast.Return):
                yield node.lineno, "L28 end"
        if isinstance(node, ast.ClassDef):
            if node.decorator_list or node.keywords:
                yield node.lineno, "L5 class"
            for part in node.body:
                if not isinstance(part, (ast.FunctionDef, ast.Assign, ast.Expr, ast.Pass)):
                    yield part.lineno, "L5 body"


def node_rules(tree, facts):
    docs = documented(tree)
    tested = set(part for node in ast.walk(tree) if isinstance(node, ast.Compare) for part in node.comparators)
    for node in ast.walk(tree):
        line = getattr(node, "lineno", 1)
        if isinstance(node, (ast.Global, ast.AsyncFunctionDef, ast.AsyncFor, ast.AsyncWith, ast.Await, ast.TryStar)):
            yield line, "L6 statement"
        if isinstance(node, ast.Constant) and isinstance(node.value, (float, complex)):
            yield line, "L7 float"
        if isinstance(node, (ast.BinOp, ast.AugAssign)) and isinstance(node.op, (ast.Div, ast.MatMult)):
            yield line, "L7 sign"
        if isinstance(node, ast.BinOp) and isinstance(node.op, ast.Pow):
            right = node.right
            plain = isinstance(right, ast.Constant) and isinstance(right.value, int) and 0 <= right.value <= 64
            if not plain and not isinstance(right, ast.Name) and not (
                    isinstance(right, ast.BinOp) and isinstance(right.op, ast.Mod)):
                yield line, "L27 exponent"
        if isinstance(node, ast.Constant) and isinstance(node.value, str):
            if "%" in node.value:
                yield line, "L27 sign"
            if node not in docs and BARRED_WORDS.search(node.value.replace("type", "")):
                yield line, "L17 string"
            if node.value.startswith("__") and node.value.endswith("__") and node.value != "__main__":
                yield line, "L27 string"
        if isinstance(node, ast.Set) and node not in tested and len([
                part for part in node.elts if isinstance(part, ast.Constant) and isinstance(part.value, int)]) > 2:
            yield line, "L13 set"
        if isinstance(node, ast.AnnAssign) and node.value is None:
            yield line, "L21 annotation"
        if isinstance(node, ast.Compare) and any(isinstance(op, (ast.Is, ast.IsNot)) for op in node.ops):
            parts = [node.left] + node.comparators
            plain = [part for part in parts if isinstance(part, ast.Constant)]
            if any(part.value is not None and not isinstance(part.value, bool) for part in plain) or not (
                    plain or any(isinstance(part, ast.Name) for part in parts)):
                yield line, "L20 is"
        if isinstance(node, ast.ExceptHandler):
            kinds = node.type.elts if isinstance(node.type, ast.Tuple) else [node.type]
            if not kinds or not all(isinstance(kind, ast.Name) for kind in kinds) or any(
                    kind.id in BUILTINS and kind.id not in CAUGHT for kind in kinds):
                yield line, "L19 handler"
        if isinstance(node, ast.Raise) and node.exc is not None and called(node.exc) is None and not isinstance(
                node.exc, ast.Name):
            yield line, "L19 raise"


def is_plain_part(node):
    """Whether the node can stand behind a star in a call."""
    if isinstance(node, (ast.List, ast.Tuple)):
        return all(is_plain_part(part) for part in node.elts)
    return isinstance(node, (ast.Name, ast.Constant)) or isinstance(node, ast.Attribute) and isinstance(
        node.value, ast.Name)


def star_rules(tree, facts):
    for node in ast.walk(tree):
        if isinstance(node, ast.Call):
            for index, part in enumerate(node.args):
                if isinstance(part, ast.Starred) and not all(
                        is_plain_part(getattr(each, "value", each) if isinstance(each, ast.Starred) else each)
                        for each in node.args[index:]):
                    yield node.lineno, "L7 star"
            if any(word.arg is None and not is_plain_part(word.value) for word in node.keywords):
                yield node.lineno, "L7 star"
        if isinstance(node, ast.Attribute) and isinstance(node.ctx, ast.Store) and node.attr in facts.properties:
            yield node.lineno, "L5 property " + node.attr
        if isinstance(node, ast.Call) and isinstance(node.func, ast.Attribute) and (
                node.func.attr in facts.properties - facts.plain_methods):
            yield node.lineno, "L5 call of property " + node.func.attr
        if isinstance(node, ast.FunctionDef) and node.args.kwonlyargs and (
                node.name in METHODS or node.name.startswith("__") and node.name != "__init__"):
            yield node.lineno, "L4 keyword"


def call_rules(tree, facts):
    names = bound(tree)
    own = facts.methods | facts.attributes | facts.values | {"__class__", "__name__", "setter", "__init__"}
    for node in ast.walk(tree):
        line = getattr(node, "lineno", 1)
        if isinstance(node, ast.Name) and isinstance(node.ctx, ast.Load) and node.id not in names | BUILTINS:
            if node.id != "__name__":
                yield line, "L8 name " + node.id
        if isinstance(node, ast.GeneratorExp) and not any(
                called(outer) in ("list", "tuple", "dict", "sorted", "sum", "min", "max", "any", "all", "next") or
                isinstance(outer.func, ast.Attribute) and outer.func.attr == "join"
                for outer in ast.walk(tree) if isinstance(outer, ast.Call) and node in outer.args):
            yield line, "L7 generator"
        if not isinstance(node, ast.Call):
            continue
        if facts.compares and called(node) in ("any", "all", "min", "max", "sum", "sorted") and any(
                isinstance(part, ast.GeneratorExp) for part in node.args):
            yield line, "L7 list"
        if isinstance(node.func, ast.Attribute) and node.func.attr not in METHODS | facts.methods | facts.attributes:
            yield line, "L25 method " + node.func.attr
        if called(node) == "isinstance" and len(node.args) == 2:
            kinds = node.args[1].elts if isinstance(node.args[1], ast.Tuple) else [node.args[1]]
            if not all(isinstance(kind, ast.Name) for kind in kinds):
                yield line, "L22 isinstance"
    for node in ast.walk(tree):
        if isinstance(node, ast.Attribute) and isinstance(node.ctx, ast.Load) and node.attr not in METHODS | own:
            if not (isinstance(node.value, ast.Name) and node.value.id == "sys"):
                yield node.lineno, "L18 attribute " + node.attr


def loop_rules(tree):
    views = ("zip", "enumerate", "reversed", "range", "map")
    for node in ast.walk(tree):
        if isinstance(node, ast.Return) and isinstance(node.value, ast.Call):
            method = node.value.func.attr if isinstance(node.value.func, ast.Attribute) else None
            if called(node.value) in views or (method in ("items", "keys", "values") and not node.value.args):
                yield node.lineno, "L23 returned"
        over = node.iter if isinstance(node, (ast.For, ast.comprehension)) else None
        if isinstance(over, (ast.Set, ast.SetComp)) or called(over) == "set":
            yield over.lineno, "L24 loop"
        back = node.value if isinstance(node, ast.Return) else None
        if isinstance(back, (ast.Set, ast.SetComp)) or called(back) == "set":
            yield node.lineno, "L24 returned"
        if isinstance(node, ast.For) and isinstance(node.iter, ast.Name):
            for part in [part for statement in node.body for part in ast.walk(statement)]:
                changed = part.func.value if isinstance(part, ast.Call) and isinstance(
                    part.func, ast.Attribute) and part.func.attr in CHANGING else None
                if isinstance(part, ast.Subscript) and not isinstance(part.ctx, ast.Load):
                    changed = part.value
                if isinstance(changed, ast.Name) and changed.id == node.iter.id:
                    yield part.lineno, "L23 changed"


def name_rules(tree):
    imported = set(alias.asname or alias.name for node in tree.body if isinstance(node, ast.ImportFrom)
                   for alias in node.names)
    classes = set(node.name for node in ast.walk(tree) if isinstance(node, ast.ClassDef))
    methods = set(part for node in ast.walk(tree) if isinstance(node, ast.ClassDef) for part in node.body)
    builtin = set(dir(builtins)) - {"__name__", "__doc__"}
    like = set(name for kind in (str, int, list, dict, set, bytes) for name in dir(kind) if not name.startswith("__"))
    for node in ast.walk(tree):
        names = set()
        if isinstance(node, ast.Name) and isinstance(node.ctx, ast.Store):
            names = {node.id}
        elif isinstance(node, ast.arg):
            names = {node.arg}
        elif isinstance(node, (ast.FunctionDef, ast.ClassDef)) and node not in methods:
            names = {node.name}
        local = names if not isinstance(node, ast.ClassDef) else set()
        for name in names:
            if name in builtin | BARRED_VARIABLES:
                yield node.lineno, "L15 builtin " + name
            if not re.fullmatch(r"_|_?[A-Za-z][A-Za-z0-9_]*|__slots__|__all__|__version__", name):
                yield node.lineno, "L12 name " + name
        for name in local & (imported | classes):
            yield node.lineno, "L15 import " + name
        used = names | ({node.attr} if isinstance(node, ast.Attribute) else set())
        used |= {node.name} if isinstance(node, ast.FunctionDef) else set()
        used |= {part.arg for part in node.keywords} if isinstance(node, ast.Call) else set()
        for name in used & BARRED_NAMES:
            yield node.lineno, "L17 name " + name
        if isinstance(node, ast.FunctionDef) and node in methods and node.name in like - OWN_LIKE_BUILTIN:
            yield node.lineno, "L26 method " + node.name
        if isinstance(node, ast.Attribute) and isinstance(node.ctx, ast.Store) and node.attr in like - {
                "count", "index", "title", "find", "get", "join", "lower", "upper", "split", "strip", "copy", "add"}:
            yield node.lineno, "L26 attribute " + node.attr
        if isinstance(node, ast.Name) and node.id == "chr":
            yield node.lineno, "L27 chr"


def import_rules(tree, trees):
    for node in tree.body:
        if isinstance(node, ast.Import) and [alias.name for alias in node.names] != ["sys"]:
            yield node.lineno, "L2 import"
        if not isinstance(node, ast.ImportFrom):
            continue
        for alias in node.names:
            if node.module in LIBRARY:
                if alias.name not in LIBRARY[node.module] or alias.asname:
                    yield node.lineno, "L2 library " + alias.name
            elif node.level or node.module not in trees or alias.name not in tops(trees[node.module]):
                yield node.lineno, "L16 import " + alias.name


def tops(tree):
    """The names that a file defines itself."""
    found = set(node.name for node in tree.body if isinstance(node, (ast.FunctionDef, ast.ClassDef)))
    return found | set(target.id for node in tree.body if isinstance(node, ast.Assign) for target in node.targets
                       if isinstance(target, ast.Name))


def complaints(source, facts=None, trees=None, main=False):
    """All that the rules say of the text of a file."""
    tree = ast.parse(source)
    facts = facts or Facts([tree])
    found = list(text_rules(source)) + list(shape_rules(tree, main)) + list(function_rules(tree))
    found += list(node_rules(tree, facts)) + list(call_rules(tree, facts)) + list(loop_rules(tree))
    found += list(star_rules(tree, facts))
    return found + list(name_rules(tree)) + list(import_rules(tree, trees or {}))


def package():
    """The files of the package, by the names of their modules."""
    found = {}
    for path in sorted(ROOT.rglob("*.py")):
        parts = path.relative_to(ROOT.parent).with_suffix("").parts
        found[".".join(parts[:-1] if parts[-1] == "__init__" else parts)] = path
    return found


class LanguageTest(unittest.TestCase):

    def test_files(self):
        files = [path for path in ROOT.rglob("*") if "__pycache__" not in path.parts]
        self.assertLessEqual(len(files), 100)
        for path in files:
            if path.is_dir():
                self.assertTrue((path / "__init__.py").is_file(), path)
            self.assertTrue(path.is_dir() or path.suffix == ".py", path)
            self.assertRegex(path.stem, "^[a-z0-9_]+$")
            self.assertFalse(path.stem in FILE_WORDS or path.stem.startswith(("test_", "law_")), path)
            self.assertNotIn(path.stem, dir(builtins))
            self.assertFalse(path.suffix == ".py" and path.with_suffix("").is_dir(), path)
            self.assertTrue(path.name != "__main__.py" or path.parent == ROOT)

    def test_rules(self):
        paths = package()
        sources = {name: path.read_text(encoding="utf-8") for name, path in paths.items()}
        trees = {name: ast.parse(source) for name, source in sources.items()}
        facts = Facts(trees.values())
        for name, source in sources.items():
            main = paths[name].name == "__main__.py"
            self.assertEqual(complaints(source, facts, trees, main), [], name)

    def test_no_circles(self):
        trees = {name: ast.parse(path.read_text(encoding="utf-8")) for name, path in package().items()}
        ahead = {name: set(node.module for node in tree.body if isinstance(node, ast.ImportFrom)) & set(trees)
                 for name, tree in trees.items()}
        while ahead:
            free = [name for name, needs in ahead.items() if not needs & set(ahead)]
            self.assertTrue(free, sorted(ahead))
            ahead = {name: needs for name, needs in ahead.items() if name not in free}

    def test_what_is_refused(self):
        for word, source in (
                ("L2", "import math\n"), ("L2", "from math import sqrt\n"), ("L16", "from .base import x\n"),
                ("L2", "def f():\n    from math import gcd\n    return gcd(1, 2)\n"), ("L3", "x = len('a')\n"),
                ("L3", "for x in (1, 2):\n    pass\n"), ("L3", "a, b = 1, 2\n"), ("L4", "def f(a=[]):\n    return a\n"),
                ("L5", "class A:\n    def __hash__(self):\n        return 1\n"), ("L6", "def f():\n    global a\n"),
                ("L7", "x = 1.5\n"), ("L7", "def f(a):\n    return a / 2\n"), ("L8", "def f(a):\n    return hash(a)\n"),
                ("L7", "def f(a):\n    return (x for x in a)\n"), ("L10", "x = '" + "a" * 120 + "'\n"),
                ("L10", "def f():\n" + "    f()\n" * 40), ("L12", "def __f():\n    return 1\n"),
                ("L13", "def f():\n    return len({1, 2, 3})\n"), ("L14", "x = '\u00e9'\n"), ("L15", "x = 1\nx = 2\n"),
                ("L15", "def f(id):\n    return id\n"), ("L17", "def f(a):\n    return a.open\n"),
                ("L17", "x = 'namedtuple'\n"), ("L18", "def f(a):\n    return a.rows\n"),
                ("L19", "def f():\n    try:\n        f()\n    except Exception:\n        pass\n"),
                ("L20", "def f(a):\n    return a is 1\n"), ("L21", "def f():\n    a: int\n"),
                ("L23", "def f(a):\n    for x in a:\n        a.append(x)\n"),
                ("L23", "def f(a):\n    return zip(a, a)\n"),
                ("L24", "def f(a):\n    for x in set(a):\n        f(x)\n"),
                ("L25", "def f(a):\n    return a.format_map(1)\n"),
                ("L26", "class A:\n    def decode(self):\n        return 1\n"), ("L27", "x = 'a%'\n"),
                ("L27", "def f(a, b):\n    return a ** (b + 1)\n"), ("L27", "x = '\\x41'\n"),
                ("L4", "class A:\n    def get(self, *, a=1):\n        return a\n"),
                ("L5", "class A:\n    def __init__(self):\n        self.a = 1\n\n    @property\n    def a(self):\n"
                       "        return 1\n"),
                ("L7", "def f(a):\n    for x in zip(*[b for b in a]):\n        f(x)\n"),
                ("L28", "class A:\n    def __init__(self):\n        return 1\n")):
            with self.subTest(source):
                self.assertTrue(any(told.startswith(word) for _, told in complaints(source)), complaints(source))
        right = "from math import gcd\n\nA = (1, 2)\n\n\ndef f(a):\n    return [gcd(x, y) for x, y in zip(a, A)]\n"
        self.assertEqual(complaints(right), [])
