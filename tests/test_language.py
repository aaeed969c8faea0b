"""The package keeps to its subset of Python, as far as its text shows."""

import ast
import builtins
import io
import os
import re
import tokenize
import unittest

PACKAGE = "upvalues"
FOLDER = os.path.join(os.path.dirname(os.path.abspath(__file__)), "..", PACKAGE)

BUILTINS = set(
    "len range enumerate zip min max sum abs sorted reversed int str bool list tuple dict set isinstance ord repr any all divmod"
    " iter next map Exception ValueError TypeError KeyError IndexError LookupError ZeroDivisionError ArithmeticError"
    " OverflowError RuntimeError NotImplementedError NotImplemented super property staticmethod classmethod".split()
)
METHODS = set(
    "append clear copy count endswith extend find get index insert isalnum isalpha isdigit islower isspace isupper items join keys"
    " ljust lower lstrip partition pop remove replace reverse rfind rjust rpartition rsplit rstrip setdefault split splitlines"
    " startswith strip update upper values zfill bit_length add discard isascii isdecimal isidentifier removeprefix removesuffix".split()
)
OWN_METHODS_TOO = set("add discard append clear copy count find get index insert join pop remove reverse update keys values items".split())
DOUBLE = set("__init__ __eq__ __repr__ __str__ __len__ __enter__ __exit__ __call__ __iter__".split())
NEVER = set("register mro elements open input law version_info with_traceback add_note".split())
NEVER_NAMES = set(
    "attrgetter breakpoint builtins compile copyright credits delattr dir eval exec exit gc getattr globals hasattr help id importlib"
    " license locals methodcaller os quit setattr super type vars sys".split()
)
NEVER_WORDS = set(
    "type typing typing_extensions enum Enum IntEnum StrEnum Flag IntFlag Generic Protocol ABC ABCMeta namedtuple NamedTuple TypedDict"
    " TYPE_CHECKING abstractmethod".split()
)
LIBRARY = {
    "heapq": {"heappush", "heappop", "heapify", "heapreplace", "heappushpop"},
    "math": {"gcd", "lcm", "isqrt", "comb", "perm", "factorial"},
    "collections": {"defaultdict"},
}
ITERATED = set("zip enumerate reversed range".split())
ITERATING = set("list tuple dict sorted sum any all enumerate zip min max len".split())
PLAIN = (ast.Constant, ast.Tuple, ast.List, ast.Dict, ast.BinOp, ast.UnaryOp, ast.Name)


def bound_names(target):
    return [node.id for node in ast.walk(target) if isinstance(node, ast.Name) and isinstance(node.ctx, ast.Store)]


class File:
    """One file of the package, with its tree."""

    def __init__(self, name):
        self.name = name
        with open(os.path.join(FOLDER, name), encoding="utf-8") as stream:
            self.text = stream.read()
        self.rows = self.text.split("\n")
        self.tree = ast.parse(self.text)
        self.nodes = list(ast.walk(self.tree))
        self.parents = {child: node for node in self.nodes for child in ast.iter_child_nodes(node)}

    def all(self, *kinds):
        return [node for node in self.nodes if isinstance(node, kinds)]

    def functions(self):
        return self.all(ast.FunctionDef)

    def imports(self):
        return self.all(ast.ImportFrom)

    def defined(self):
        """The names that the module binds, without its imports, as often as it does."""
        names = [node.name for node in self.tree.body if isinstance(node, (ast.FunctionDef, ast.ClassDef))]
        return names + [name for node in self.tree.body if isinstance(node, ast.Assign) for name in bound_names(node)]

    def imported(self):
        return [alias.asname or alias.name for node in self.imports() for alias in node.names]

    def local_names(self):
        """Parameters and names that functions bind."""
        names = [node.arg for node in self.all(ast.arg)]
        for function in self.functions():
            names += [node.id for node in ast.walk(function) if isinstance(node, ast.Name) and isinstance(node.ctx, ast.Store)]
        return names + [node.name for node in self.all(ast.ExceptHandler, ast.MatchAs) if node.name]


FILES = [File(name) for name in sorted(os.listdir(FOLDER)) if name.endswith(".py")]


class LanguageTest(unittest.TestCase):
    def each(self, *kinds):
        for file in FILES:
            for node in file.all(*kinds):
                yield file, node, f"{file.name}:{getattr(node, 'lineno', 0)}"

    def test_files(self):
        for name in os.listdir(FOLDER):
            self.assertTrue(name == "__pycache__" or re.fullmatch(r"[a-z0-9_]+\.py", name), name)
        self.assertIn("__init__.py", [file.name for file in FILES])

    def test_sizes_and_signs(self):
        for file in FILES:
            self.assertLessEqual(len(file.rows), 399, file.name)
            for at, row in enumerate(file.rows, 1):
                self.assertLessEqual(len(row), 120, f"{file.name}:{at}")
                self.assertTrue(all(" " <= sign <= "~" for sign in row), f"{file.name}:{at}")
            for function in file.functions():
                self.assertLessEqual(function.end_lineno - function.lineno + 1, 40, function.name)

    def test_imports(self):
        modules = {f"{PACKAGE}.{file.name[:-3]}": file for file in FILES}
        for file, node, told in self.each(ast.Import, ast.ImportFrom):
            self.assertIsInstance(node, ast.ImportFrom, told)
            self.assertEqual(node.level, 0, told)
            self.assertIn(node, file.tree.body, told)
            for alias in node.names:
                if node.module in LIBRARY:
                    self.assertIn(alias.name, LIBRARY[node.module], told)
                    self.assertIsNone(alias.asname, told)
                else:
                    self.assertIn(alias.name, modules[node.module].defined(), told)
        left = {name: {node.module for node in file.imports()} & set(modules) for name, file in modules.items()}
        while left:
            free = [name for name, needs in left.items() if not needs & set(left)]
            self.assertNotEqual(free, [], f"a circle among {sorted(left)}")
            left = {name: needs for name, needs in left.items() if name not in free}

    def test_module_level(self):
        for file in FILES:
            for at, node in enumerate(file.tree.body):
                told = f"{file.name}:{node.lineno}"
                if isinstance(node, ast.Expr):
                    self.assertTrue(at == 0 and isinstance(node.value, ast.Constant) and isinstance(node.value.value, str), told)
                elif isinstance(node, ast.Assign):
                    self.assertTrue(len(node.targets) == 1 and isinstance(node.targets[0], ast.Name), told)
                    self.check_plain(file, node.value, told)
                else:
                    self.assertIsInstance(node, (ast.ImportFrom, ast.FunctionDef, ast.ClassDef), told)
            names = file.defined() + file.imported()
            self.assertEqual(len(names), len(set(names)), file.name)

    def check_plain(self, file, value, told):
        functions = [node.name for node in file.tree.body if isinstance(node, ast.FunctionDef) and node.lineno < value.lineno]
        for node in ast.walk(value):
            if isinstance(node, (ast.expr_context, ast.operator, ast.unaryop)):
                continue
            self.assertIsInstance(node, PLAIN, told)
            if isinstance(node, ast.Name):
                self.assertIn(node.id, functions, told)
            if isinstance(node, (ast.List, ast.Dict)):
                self.assertIs(node, value, told)

    def test_module_tables_are_only_read(self):
        for file in FILES:
            tables = [node.targets[0].id for node in file.tree.body if isinstance(node, ast.Assign) and isinstance(node.value, (ast.List, ast.Dict))]
            for other in FILES:
                for node in other.all(ast.Name):
                    if node.id in tables and isinstance(node.ctx, ast.Load) and (other is file or node.id in other.imported()):
                        parent = other.parents[node]
                        is_read = isinstance(parent, ast.Subscript) or (isinstance(parent, ast.Attribute) and parent.attr == "get")
                        self.assertTrue(is_read or isinstance(parent, ast.Compare), f"{other.name}:{node.lineno}")

    def test_statements(self):
        bad = (ast.Global, ast.AsyncFunctionDef, ast.AsyncFor, ast.AsyncWith, ast.Await, ast.Lambda, ast.GeneratorExp, ast.Set,
               ast.SetComp, ast.Yield, ast.YieldFrom, ast.NamedExpr, ast.Div, ast.MatMult, ast.AnnAssign, ast.With)
        for _, _, told in self.each(*bad):
            self.fail(told)
        for _, node, told in self.each(ast.FunctionDef, ast.ClassDef):
            self.assertEqual(node.decorator_list, [], told)
        for _, node, told in self.each(ast.ClassDef):
            for part in node.body:
                self.assertIsInstance(part, (ast.FunctionDef, ast.Expr, ast.Assign), told)
        for _, node, told in self.each(ast.FunctionDef):
            for inner in ast.walk(node):
                self.assertTrue(inner is node or not isinstance(inner, (ast.FunctionDef, ast.ClassDef)), told)

    def test_only_own_errors_are_caught(self):
        own = {node.name for file in FILES for node in file.all(ast.ClassDef) if file.name in ("errors.py", "objects.py")}
        for _, node, told in self.each(ast.Try):
            self.assertEqual(node.finalbody, [], told)
            for handler in node.handlers:
                self.assertIsInstance(handler.type, ast.Name, told)
                self.assertIn(handler.type.id, own, told)

    def test_constants(self):
        for file, node, told in self.each(ast.Constant):
            self.assertTrue(node.value is None or isinstance(node.value, (bool, int, str)), told)
            parent = file.parents[node]
            if isinstance(node.value, str) and not isinstance(parent, ast.Expr):
                self.assertNotIn("%", node.value, told)
                self.assertFalse(re.search(r"\._$|\.__$|^__.*__$", node.value), told)
                if re.search(r"[{}]", node.value) or ("." in node.value and " " not in node.value):
                    self.assertFalse(re.search(r"(?<![A-Za-z0-9_])__", node.value), told)
        for _, node, told in self.each(ast.BinOp):
            if isinstance(node.op, ast.Pow):
                self.assertTrue(isinstance(node.right, ast.Constant) and 0 <= node.right.value <= 64, told)

    def test_tokens(self):
        for file in FILES:
            for token in tokenize.generate_tokens(io.StringIO(file.text).readline):
                told = f"{file.name}:{token.start[0]}"
                if token.type == tokenize.NAME:
                    self.assertNotIn(token.string, NEVER_WORDS | NEVER, told)
                if token.type == tokenize.STRING:
                    for escape in re.findall(r"\\(.)", token.string, re.S):
                        self.assertIn(escape, "nt\\\"'", told)
                self.assertFalse(re.search(r"dataclass|overload|contextmanager|_wall", token.string), told)

    def test_names(self):
        own = {name for file in FILES for name in file.defined()}
        for file in FILES:
            classes = [node.name for node in file.all(ast.ClassDef)]
            for name in file.local_names():
                self.assertNotIn(name, classes + file.imported(), file.name)
                self.assertFalse(name != "_" and hasattr(builtins, name), f"{file.name}: {name}")
                self.assertTrue(re.fullmatch(r"_|_?[A-Za-z][A-Za-z0-9_]*", name), f"{file.name}: {name}")
            for name in file.local_names() + file.defined() + file.imported():
                self.assertNotIn(name, NEVER_NAMES | NEVER, file.name)
            for node in file.all(ast.Name):
                # Examples that are run elsewhere leave _ among the builtins.
                if node.id != "_" and hasattr(builtins, node.id):
                    self.assertIn(node.id, BUILTINS, f"{file.name}:{node.lineno}")
        for name in own:
            self.assertFalse(hasattr(builtins, name), name)

    def test_nothing_in_a_class_has_these_names(self):
        for _, node, told in self.each(ast.ClassDef):
            for inner in ast.walk(node):
                found = [getattr(inner, field, None) for field in ("arg", "id", "attr", "name")]
                for word in ("property", "staticmethod", "classmethod", "args"):
                    self.assertNotIn(word, found, told)

    def test_each_class_value_is_read_off_a_name(self):
        for file, node, told in self.each(ast.Attribute):
            if node.attr.isupper():
                self.assertIsInstance(node.value, ast.Name, told)

    def test_is(self):
        for _, node, told in self.each(ast.Compare):
            for operator, right in zip(node.ops, node.comparators):
                if isinstance(operator, (ast.Is, ast.IsNot)):
                    self.assertTrue(isinstance(right, ast.Constant) and right.value in (None, True, False), told)

    def test_methods_and_attributes(self):
        classes = [node for file in FILES for node in file.all(ast.ClassDef)]
        methods = [part.name for node in classes for part in node.body if isinstance(part, ast.FunctionDef)]
        values = [name for node in classes for part in node.body if isinstance(part, ast.Assign) for name in bound_names(part)]
        assigned = {node.attr for file in FILES for node in file.all(ast.Attribute) if isinstance(node.ctx, ast.Store)}
        taken = {name for kind in (str, int, list, dict, set, bytes, tuple) for name in dir(kind)}
        for name in methods:
            if name.startswith("__"):
                self.assertIn(name, DOUBLE)
            else:
                self.assertTrue(name not in taken or name in OWN_METHODS_TOO, name)
                self.assertNotIn(name, assigned)
        for name in assigned:
            self.assertTrue(name not in taken or name in ("count", "index"), name)
        for file, node, told in self.each(ast.Attribute):
            parent = file.parents[node]
            if isinstance(parent, ast.Call) and parent.func is node:
                self.assertTrue(node.attr in METHODS or node.attr in methods, told)
            else:
                self.assertTrue(node.attr in assigned or node.attr in values, told)
            if isinstance(node.ctx, ast.Store):
                self.assertIsInstance(node.value, ast.Name, told)

    def test_iterated_at_once(self):
        for file, node, told in self.each(ast.Call):
            if isinstance(node.func, ast.Name) and node.func.id in ITERATED:
                parent = file.parents[node]
                is_argument = isinstance(parent, ast.Call) and isinstance(parent.func, ast.Name) and (
                    parent.func.id in ITERATING or (parent.func.id, node.func.id) == ("reversed", "range"))
                self.assertTrue(is_argument or isinstance(parent, (ast.For, ast.comprehension)), told)

    def test_calls(self):
        for _, node, told in self.each(ast.Call):
            if isinstance(node.func, ast.Name) and node.func.id in BUILTINS:
                for keyword in node.keywords:
                    self.assertIn(keyword.arg, ("key", "reverse", "default", "start", "strict"), told)
            for argument in node.args:
                if isinstance(argument, ast.Starred):
                    self.assertIsInstance(argument.value, ast.Name, told)

    def test_raising(self):
        for _, node, told in self.each(ast.Raise):
            self.assertTrue(isinstance(node.exc, ast.Call) and isinstance(node.exc.func, ast.Name), told)

    def test_loops_do_not_change_what_they_go_over(self):
        for _, node, told in self.each(ast.For):
            gone = {ast.dump(one) for one in ast.walk(node.iter) if isinstance(one, (ast.Name, ast.Attribute))}
            for inner in [one for row in node.body for one in ast.walk(row)]:
                if isinstance(inner, ast.Call) and isinstance(inner.func, ast.Attribute) and inner.func.attr in OWN_METHODS_TOO:
                    self.assertNotIn(ast.dump(inner.func.value), gone, told)


if __name__ == "__main__":
    unittest.main()
