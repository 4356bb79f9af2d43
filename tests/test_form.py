"""The form of the code: what a program can see of the rules of the language."""

import ast
import builtins
import io
import pathlib
import re
import tokenize
import unittest
import warnings

PACKAGE = pathlib.Path(__file__).resolve().parent.parent / "curvebells"

ALLOWED_BUILTINS = set("""len range enumerate zip min max sum abs sorted reversed int str bool bytes list tuple dict set
    frozenset isinstance ord repr any all divmod Exception ValueError TypeError KeyError IndexError LookupError
    ZeroDivisionError ArithmeticError OverflowError RuntimeError NotImplementedError AttributeError StopIteration
    NotImplemented iter next map True False None property staticmethod classmethod super""".split())
LIBRARY = {
    "heapq": {"heappush", "heappop", "heapify", "heapreplace", "heappushpop"},
    "math": {"gcd", "lcm", "isqrt", "comb", "perm", "factorial"},
    "itertools": {"product", "combinations", "permutations"},
}
METHODS = set("""append clear copy count endswith extend find get index insert isalnum isalpha isdigit islower isspace
    isupper items join keys ljust lower lstrip partition pop remove replace reverse rfind rjust rpartition rsplit rstrip
    setdefault split splitlines startswith strip update upper values zfill bit_length title capitalize swapcase casefold
    center expandtabs removeprefix removesuffix rindex isascii isdecimal isnumeric istitle isidentifier isprintable
    add discard sort""".split())
BARRED_WORDS = set("""type typing typing_extensions enum Enum IntEnum StrEnum Flag IntFlag Generic Protocol ABC ABCMeta
    namedtuple NamedTuple TypedDict TYPE_CHECKING abstractmethod register mro elements open input law version_info
    with_traceback add_note format format_map eval exec getattr setattr hasattr globals locals vars dir id
    _wall _WallAttr""".split())
BARRED_NODES = (
    ast.Global, ast.AsyncFunctionDef, ast.AsyncFor, ast.AsyncWith, ast.Await, ast.Div, ast.Import, ast.AnnAssign,
)
METHOD_NAMES = set("""__init__ __eq__ __repr__ __str__ __len__""".split())


def sources():
    return {path: path.read_text(encoding="utf-8") for path in sorted(PACKAGE.glob("*.py"))}


def trees():
    return {path: ast.parse(text) for path, text in sources().items()}


def is_builtin(name):
    # A doctest leaves its last value among the builtins, as _.
    return name != "_" and hasattr(builtins, name)


def functions_of(tree):
    return [node for node in ast.walk(tree) if isinstance(node, (ast.FunctionDef, ast.Lambda))]


def bound_names(tree):
    """All names that are bound in a file, but those of methods, attributes and imports."""
    methods = {one for node in ast.walk(tree) if isinstance(node, ast.ClassDef) for one in node.body}
    for node in ast.walk(tree):
        if isinstance(node, ast.Name) and isinstance(node.ctx, ast.Store):
            yield node.id
        elif isinstance(node, ast.arg):
            yield node.arg
        elif isinstance(node, (ast.FunctionDef, ast.ClassDef)) and node not in methods:
            yield node.name
        elif isinstance(node, ast.ExceptHandler) and node.name:
            yield node.name


class TestFiles(unittest.TestCase):

    def test_folder(self):
        for path in PACKAGE.iterdir():
            if path.name != "__pycache__":
                self.assertRegex(path.name, r"\A[a-z_][a-z0-9_]*\.py\Z")

    def test_lines(self):
        for path, text in sources().items():
            self.assertRegex(text, r"\A[ -~\n]*\Z", path.name)
            lines = text.split("\n")
            self.assertLessEqual(len(lines), 400, path.name)
            self.assertTrue(all(len(line) <= 120 and line == line.rstrip() for line in lines), path.name)

    def test_no_warnings(self):
        for path, text in sources().items():
            with warnings.catch_warnings():
                warnings.simplefilter("error")
                compile(text, path.name, "exec")

    def test_functions_are_small(self):
        for path, tree in trees().items():
            for node in functions_of(tree):
                self.assertLessEqual(node.end_lineno - node.lineno + 1, 40, path.name)

    def test_module_level(self):
        kinds = (ast.ImportFrom, ast.FunctionDef, ast.ClassDef, ast.Assign)
        for path, tree in trees().items():
            self.assertIsNotNone(ast.get_docstring(tree), path.name)
            for node in tree.body[1:]:
                self.assertIsInstance(node, kinds, path.name)
                if isinstance(node, ast.Assign):
                    ast.literal_eval(self.without_functions(node.value, tree, node.lineno))

    def without_functions(self, value, tree, line):
        """A value, the functions of its file that are defined above it as numbers."""
        above = {one.name for one in tree.body if isinstance(one, ast.FunctionDef) and one.lineno < line}
        if isinstance(value, ast.Dict):
            value.values = [ast.Constant(0) if isinstance(one, ast.Name) and one.id in above else one for one in value.values]
        return value


class TestImports(unittest.TestCase):

    def test_from_the_very_file(self):
        for path, tree in trees().items():
            for node in ast.walk(tree):
                if isinstance(node, ast.ImportFrom):
                    self.assertEqual(node.level, 0)
                    self.assertTrue(all(one.asname is None for one in node.names), path.name)
                    self.assertLessEqual({one.name for one in node.names}, self.names_in(node.module), path.name)

    def names_in(self, module):
        if module in LIBRARY:
            return LIBRARY[module]
        package, name = module.split(".")
        self.assertEqual(package, "curvebells")
        tree = ast.parse((PACKAGE / (name + ".py")).read_text(encoding="utf-8"))
        targets = [one.targets[0].id for one in tree.body if isinstance(one, ast.Assign)]
        return set(targets) | {one.name for one in tree.body if isinstance(one, (ast.FunctionDef, ast.ClassDef))}

    def test_no_circle(self):
        needs = {}
        for path, tree in trees().items():
            needs[path.stem] = {node.module.split(".")[-1] for node in tree.body if isinstance(node, ast.ImportFrom)
                                and node.module.startswith("curvebells.")}
        while needs:
            free = [name for name, others in needs.items() if not others & set(needs)]
            self.assertTrue(free, needs)
            for name in free:
                del needs[name]

    def test_each_import_is_used(self):
        for path, tree in trees().items():
            used = {node.id for node in ast.walk(tree) if isinstance(node, ast.Name)}
            told = {one.name for node in tree.body if isinstance(node, ast.ImportFrom) for one in node.names}
            self.assertLessEqual(told, used, path.name)


class TestNames(unittest.TestCase):

    def test_no_builtin_is_bound(self):
        for path, tree in trees().items():
            for name in bound_names(tree):
                self.assertFalse(is_builtin(name), (path.name, name))
                self.assertNotIn(name, BARRED_WORDS)
                self.assertRegex(name, r"\A(_|_?[A-Za-z][A-Za-z0-9_]*)\Z")

    def test_locals_are_no_imports_or_classes(self):
        for path, tree in trees().items():
            taken = {node.name for node in tree.body if isinstance(node, ast.ClassDef)}
            taken |= {one.name for node in tree.body if isinstance(node, ast.ImportFrom) for one in node.names}
            for function in functions_of(tree):
                inner = {node.id for node in ast.walk(function)
                         if isinstance(node, ast.Name) and isinstance(node.ctx, ast.Store)}
                inner |= {node.arg for node in ast.walk(function) if isinstance(node, ast.arg)}
                self.assertFalse(inner & taken, path.name)

    def test_builtins(self):
        for path, tree in trees().items():
            for node in ast.walk(tree):
                if isinstance(node, ast.Name) and is_builtin(node.id):
                    self.assertIn(node.id, ALLOWED_BUILTINS, path.name)

    def test_methods(self):
        own = {node.name for tree in trees().values() for node in ast.walk(tree) if isinstance(node, ast.FunctionDef)}
        for path, tree in trees().items():
            for node in ast.walk(tree):
                if isinstance(node, ast.Call) and isinstance(node.func, ast.Attribute):
                    self.assertIn(node.func.attr, METHODS | own, path.name)
                if isinstance(node, ast.FunctionDef) and node.name.startswith("__"):
                    self.assertIn(node.name, METHOD_NAMES, path.name)

    def test_words(self):
        for path, text in sources().items():
            for token in tokenize.generate_tokens(io.StringIO(text).readline):
                if token.type == tokenize.NAME:
                    self.assertNotIn(token.string, BARRED_WORDS, path.name)
                if token.type == tokenize.STRING:
                    self.assertNotIn("%", token.string, path.name)
                    self.assertEqual(re.findall(r"\\[^nt\\\"']", token.string), [], path.name)


class TestNodes(unittest.TestCase):

    def test_nodes(self):
        for path, tree in trees().items():
            for node in ast.walk(tree):
                self.assertNotIsInstance(node, BARRED_NODES, path.name)
                if isinstance(node, ast.Constant):
                    self.assertNotIsInstance(node.value, (float, complex), path.name)
                if isinstance(node, ast.Pow):
                    self.fail(path.name)
                if isinstance(node, (ast.FunctionDef, ast.ClassDef)):
                    for one in node.decorator_list:
                        self.assertIn(one.id, ("staticmethod", "classmethod", "property"), path.name)

    def test_no_generators_where_classes_compare(self):
        for path, tree in trees().items():
            for node in ast.walk(tree):
                if isinstance(node, ast.Call) and isinstance(node.func, ast.Name):
                    if node.func.id in ("any", "all", "min", "max", "sum", "sorted"):
                        for one in node.args:
                            self.assertNotIsInstance(one, ast.GeneratorExp, path.name)

    def test_sets(self):
        for path, tree in trees().items():
            held = set()
            for node in ast.walk(tree):
                if isinstance(node, ast.Call) and isinstance(node.func, ast.Name) and node.func.id in ("sorted", "len"):
                    held |= {id(one) for one in node.args}
            for node in ast.walk(tree):
                is_call = isinstance(node, ast.Call) and isinstance(node.func, ast.Name) and node.func.id == "set"
                if is_call or isinstance(node, (ast.Set, ast.SetComp)):
                    self.assertIn(id(node), held, path.name)

    def test_iterated_at_once(self):
        for path, tree in trees().items():
            fine = set()
            for node in ast.walk(tree):
                if isinstance(node, (ast.For, ast.comprehension)):
                    fine.add(id(node.iter))
                if isinstance(node, ast.Call) and isinstance(node.func, ast.Name):
                    if node.func.id in ("list", "tuple", "dict", "sorted", "sum", "any", "all", "enumerate", "zip",
                                        "combinations", "product", "permutations"):
                        fine |= {id(one) for one in node.args}
            for node in ast.walk(tree):
                if isinstance(node, ast.Call):
                    name = getattr(node.func, "id", getattr(node.func, "attr", None))
                    if name in ("zip", "enumerate", "reversed", "range", "items", "keys", "values"):
                        self.assertIn(id(node), fine, (path.name, node.lineno))


if __name__ == "__main__":
    unittest.main()
