"""Rules of the Python subset that a look at the text of the package shows."""

import ast
import builtins
import os
import re
import unittest

ROOT = os.path.dirname(os.path.dirname(os.path.abspath(__file__)))
PACKAGE = os.path.join(ROOT, "buswindows")

LIBRARY = {
    "heapq": {"heappush", "heappop", "heapify", "heapreplace", "heappushpop"},
    "math": {"gcd", "lcm", "isqrt", "comb", "perm", "factorial"},
    "itertools": {"product", "combinations", "permutations", "chain", "accumulate", "pairwise", "islice",
                  "zip_longest"},
    "collections": {"defaultdict"}, "__future__": {"annotations"},
}
BUILTINS = set(
    "len range enumerate zip min max sum abs sorted reversed int str bool bytes list tuple dict set frozenset "
    "isinstance ord repr any all divmod pow getattr hasattr setattr iter next map super property staticmethod "
    "classmethod Exception ValueError TypeError KeyError IndexError LookupError ZeroDivisionError ArithmeticError "
    "OverflowError RuntimeError NotImplementedError AttributeError StopIteration NotImplemented object".split())
# True, False and None are no names; the decorators and super have rules of their own.
DOUBLE = {
    "__init__", "__eq__", "__repr__", "__str__", "__len__", "__enter__", "__exit__", "__call__", "__iter__",
    "__class__", "__name__", "__slots__", "__version__", "__all__", "__future__",
}
NEVER = {"register", "mro", "elements", "open", "input", "law", "version_info", "with_traceback", "add_note"}
NO_BINDING = set(dir(builtins)) | set(
    "attrgetter builtins copyright credits exit gc help importlib license methodcaller os quit sys".split())
WORDS = (
    "type typing typing_extensions enum Enum IntEnum StrEnum Flag IntFlag Generic Protocol ABC ABCMeta namedtuple "
    "NamedTuple TypedDict TYPE_CHECKING abstractmethod").split()
BARRED = (
    ast.Global, ast.AsyncFunctionDef, ast.AsyncFor, ast.AsyncWith, ast.Await, ast.Div, ast.MatMult, ast.TryStar,
    ast.Import,
)


def files():
    """The name and the text of each file of the package."""
    found = []
    for folder, _, names in os.walk(PACKAGE):
        if os.path.basename(folder) != "__pycache__":
            for name in sorted(names):
                with open(os.path.join(folder, name), encoding="utf-8", newline="") as file:
                    found.append((os.path.relpath(os.path.join(folder, name), ROOT), file.read()))
    return found


def nodes(kind=ast.AST):
    """Each node of a kind, with the place where it stands."""
    for name, text in files():
        for node in ast.walk(ast.parse(text)):
            if isinstance(node, kind):
                yield f"{name}:{getattr(node, 'lineno', 0)}", node


def bound_names():
    """Each name that is bound, with the place."""
    for place, node in nodes():
        if isinstance(node, (ast.FunctionDef, ast.ClassDef)):
            yield place, node.name
        elif isinstance(node, ast.arg):
            yield place, node.arg
        elif isinstance(node, ast.alias):
            yield place, node.asname or node.name
        elif isinstance(node, ast.Name) and isinstance(node.ctx, ast.Store):
            yield place, node.id
        elif isinstance(node, ast.ExceptHandler) and node.name:
            yield place, node.name


class Language(unittest.TestCase):
    def test_files(self):
        names = [name for name, _ in files()]
        self.assertIn(os.path.join("buswindows", "__init__.py"), names)
        for name in names:
            self.assertRegex(os.path.basename(name), r"^[a-z0-9_]+\.py$")

    def test_characters_and_lengths(self):
        for name, text in files():
            self.assertRegex(text, r"\A[\n -~]+\n\Z", name)
            lines = text.split("\n")
            self.assertLessEqual(len(lines), 400, name)
            self.assertLessEqual(max(len(line) for line in lines), 120, name)

    def test_functions_are_short(self):
        for place, node in nodes(ast.FunctionDef):
            self.assertLessEqual(node.end_lineno - node.lineno + 1, 40, place)

    def test_imports(self):
        for place, node in nodes(ast.ImportFrom):
            self.assertEqual(node.level, 0, place)
            for alias in node.names:
                if not node.module.startswith("buswindows."):
                    self.assertIn(alias.name, LIBRARY.get(node.module, ()), place)
                    self.assertIsNone(alias.asname, place)

    def test_imports_name_the_defining_file_and_go_in_no_ring(self):
        above = {}
        for name, text in files():
            module = name[:-3].replace(os.sep, ".")
            above[module] = {
                node.module for node in ast.walk(ast.parse(text))
                if isinstance(node, ast.ImportFrom) and node.module.startswith("buswindows.")}
        while above:
            free = [module for module, needs in above.items() if not needs & set(above)]
            self.assertTrue(free, above)
            for module in free:
                del above[module]
        defined = {}
        for name, text in files():
            body = ast.parse(text).body
            defined[name[:-3].replace(os.sep, ".")] = {
                target.id for node in body if isinstance(node, ast.Assign) for target in node.targets
            } | {node.name for node in body if isinstance(node, (ast.FunctionDef, ast.ClassDef))}
        for place, node in nodes(ast.ImportFrom):
            for alias in node.names:
                self.assertTrue(node.module in LIBRARY or alias.name in defined[node.module], place)

    def test_module_level(self):
        for name, text in files():
            for node in ast.parse(text).body:
                docstring = isinstance(node, ast.Expr) and isinstance(node.value, ast.Constant)
                plain = (ast.ImportFrom, ast.FunctionDef, ast.ClassDef, ast.Assign)
                self.assertTrue(docstring or isinstance(node, plain), f"{name}:{node.lineno}")

    def test_statements_and_signs(self):
        for place, node in nodes(BARRED):
            self.fail(f"{place}: {type(node).__name__}")

    def test_values(self):
        for place, node in nodes(ast.Constant):
            self.assertNotIn(type(node.value), (float, complex), place)
            if isinstance(node.value, str):
                self.assertNotIn("%", node.value, place)

    def test_builtins(self):
        for place, node in nodes(ast.Name):
            if isinstance(node.ctx, ast.Load) and node.id in dir(builtins):
                self.assertIn(node.id, BUILTINS, place)

    def test_names(self):
        for place, name in bound_names():
            if name not in DOUBLE and not (name.startswith("__") and name.endswith("__")):
                self.assertRegex(name, r"^(_|_?[A-Za-z][A-Za-z0-9_]*)$", place)
                self.assertFalse(name in NO_BINDING or name in NEVER, (place, name))
        for place, node in nodes(ast.Attribute):
            self.assertNotIn(node.attr, NEVER, place)

    def test_each_name_means_one_thing_in_its_file(self):
        for name, text in files():
            body = ast.parse(text).body
            taken = [alias.name for node in body if isinstance(node, ast.ImportFrom) for alias in node.names]
            taken += [node.name for node in body if isinstance(node, (ast.FunctionDef, ast.ClassDef))]
            taken += [target.id for node in body if isinstance(node, ast.Assign) for target in node.targets]
            self.assertEqual(len(set(taken)), len(taken), name)
            for function in ast.walk(ast.parse(text)):
                if isinstance(function, ast.FunctionDef):
                    for node in ast.walk(function):
                        bound = node.arg if isinstance(node, ast.arg) else None
                        if isinstance(node, ast.Name) and isinstance(node.ctx, ast.Store):
                            bound = node.id
                        self.assertNotIn(bound, taken, f"{name}:{function.lineno}")

    def test_exponents(self):
        for place, node in nodes(ast.BinOp):
            if isinstance(node.op, ast.Pow):
                self.assertIsInstance(node.right, ast.Constant, place)
                self.assertTrue(0 <= node.right.value <= 64, place)

    def test_no_generator_expressions(self):
        # any, all, sum and the like take lists, as they must where a class has __eq__ or a length.
        for place, _ in nodes(ast.GeneratorExp):
            self.fail(place)

    def test_sets_are_written_in_sorted_or_len_alone(self):
        def calls(node, names):
            return isinstance(node, ast.Call) and isinstance(node.func, ast.Name) and node.func.id in names

        for name, text in files():
            walked = list(ast.walk(ast.parse(text)))
            inner = [argument for node in walked if calls(node, ("sorted", "len")) and not node.keywords
                     for argument in node.args]
            for node in walked:
                if isinstance(node, (ast.Set, ast.SetComp)) or calls(node, ("set", "frozenset")):
                    self.assertIn(node, inner, f"{name}:{node.lineno}")

    def test_words_that_occur_in_no_file(self):
        for name, text in files():
            code = "\n".join(line.split("#")[0] for line in re.sub(r'"""[\s\S]*?"""', "", text).split("\n"))
            self.assertIsNone(re.search(r"\b(" + "|".join(WORDS) + r")\b", code), name)
            self.assertIsNone(re.search(r"dataclass|overload|contextmanager|_wall|_WallAttr", code), name)

    def test_properties_have_names_of_their_own(self):
        names, others = set(), set()
        for place, node in nodes(ast.FunctionDef):
            words = [decorator.id for decorator in node.decorator_list]
            self.assertIn(words, ([], ["property"], ["classmethod"]), place)
            (names if words == ["property"] else others).add(node.name)
        for _, node in nodes(ast.Attribute):
            if isinstance(node.ctx, ast.Store):
                others.add(node.attr)
        self.assertTrue(names)
        self.assertEqual(names & others, set())

    def test_what_is_done_at_last_is_simple(self):
        for place, node in nodes(ast.Try):
            for row in node.finalbody:
                self.assertIsInstance(row, ast.Assign, place)
                self.assertIsInstance(row.value, (ast.Name, ast.Attribute, ast.Constant), place)

    def test_handlers_name_their_errors(self):
        for place, node in nodes(ast.ExceptHandler):
            self.assertIsNotNone(node.type, place)


if __name__ == "__main__":
    unittest.main()
