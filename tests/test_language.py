"""The rules of the language that can be seen in the text of the package's files."""

import ast
import builtins
import re
import unittest
from pathlib import Path

PACKAGE = Path(__file__).parent.parent / "platelights"
FILES = sorted(PACKAGE.glob("*.py"))
LIBRARY = {
    "math": {"gcd", "lcm", "isqrt", "comb", "perm", "factorial"},
    "itertools": {"product", "combinations", "permutations"},
}
BUILTINS = set("""len range enumerate zip min max sum abs sorted reversed int str bool list tuple dict isinstance ord
repr any all divmod ValueError type""".split())
METHODS = set("""append clear copy count endswith extend find get index insert isalnum isalpha isdigit islower isspace
isupper items join keys ljust lower lstrip partition pop remove replace reverse rfind rjust rpartition rsplit rstrip
setdefault split splitlines startswith strip update upper values zfill bit_length""".split())
STATEMENTS = (
    ast.Assign, ast.AugAssign, ast.If, ast.While, ast.For, ast.Return, ast.Break, ast.Continue, ast.Pass, ast.Raise,
    ast.Expr, ast.FunctionDef, ast.ClassDef, ast.ImportFrom, ast.With,
)
BARRED_NAMES = set("""register mro elements open input law version_info with_traceback add_note attrgetter breakpoint
builtins compile copyright credits delattr dir eval exec exit gc getattr globals hasattr help id importlib license
locals methodcaller os quit setattr super vars sys hash next map round filter format""".split())
BARRED_ATTRIBUTES = set("""register mro elements open input law sort args encode decode hex fromhex format format_map
as_integer_ratio bit_count conjugate from_bytes is_integer to_bytes""".split())
BARRED_WORDS = re.compile(
    r"\b(typing|typing_extensions|enum|Enum|IntEnum|StrEnum|Flag|IntFlag|Generic|Protocol|ABC|ABCMeta|namedtuple|"
    r"NamedTuple|TypedDict|TYPE_CHECKING|abstractmethod)\b|dataclass|overload|contextmanager|_wall|_WallAttr")


def tree_of(file):
    return ast.parse(file.read_text(encoding="ascii"))


def nodes_of(file, *kinds):
    return [node for node in ast.walk(tree_of(file)) if isinstance(node, kinds)]


def imports_of(file):
    """Pairs of a module and a name that a file imports."""
    return [(node.module, alias.name) for node in nodes_of(file, ast.ImportFrom) for alias in node.names]


def names_bound_within(function):
    """The parameters and local names of a function."""
    found = [argument.arg for argument in function.args.args]
    found += [node.id for node in ast.walk(function) if isinstance(node, ast.Name) and isinstance(node.ctx, ast.Store)]
    return found


class LanguageTest(unittest.TestCase):

    def each(self, *kinds):
        for file in FILES:
            for node in nodes_of(file, *kinds):
                yield file.name + ":" + str(node.lineno), node

    def test_files(self):
        self.assertGreater(len(FILES), 8)
        self.assertLessEqual(len(FILES), 100)
        for path in PACKAGE.iterdir():
            if path.name != "__pycache__":
                self.assertRegex(path.name, r"^[a-z][a-z0-9_]*\.py$|^__init__\.py$")
                self.assertNotRegex(path.stem, r"^(law_|test)|^(heapq|math|itertools|site|conftest)$")
                self.assertNotIn(path.stem, dir(builtins))

    def test_sizes_and_characters(self):
        for file in FILES:
            text = file.read_bytes()
            lines = text.decode("ascii").split("\n")
            self.assertLessEqual(len(lines) - 1, 399, file)
            for number, line in enumerate(lines):
                self.assertLessEqual(len(line), 120, (file, number))
                self.assertRegex(line, r"^[ -~]*$")
            self.assertIsNone(BARRED_WORDS.search(text.decode("ascii")), file)
        for place, node in self.each(ast.FunctionDef):
            self.assertLessEqual(node.end_lineno - node.lineno + 1, 40, place)

    def test_imports(self):
        for file in FILES:
            body = tree_of(file).body
            rest = [node for node in body if not isinstance(node, ast.ImportFrom)]
            self.assertTrue(isinstance(rest[0], ast.Expr) and isinstance(rest[0].value, ast.Constant), file)
            first = [type(node) for node in body].index(ast.ImportFrom) if len(rest) < len(body) else len(body)
            self.assertTrue(all(isinstance(node, ast.ImportFrom) for node in body[1:len(body) - len(rest) + 1]), file)
            self.assertIn(first, (1, len(body)))
            for module, name in imports_of(file):
                if module in LIBRARY:
                    self.assertIn(name, LIBRARY[module])
                else:
                    self.assertTrue(module.startswith("platelights."), module)
                    self.assertIn(name, defined_in(PACKAGE / (module.split(".")[1] + ".py")), (file, name))
        for place, node in self.each(ast.ImportFrom):
            self.assertEqual((node.level, [alias.asname for alias in node.names if alias.asname]), (0, []), place)

    def test_no_import_goes_in_a_circle(self):
        after = {file.stem: {module.split(".")[1] for module, _ in imports_of(file) if "." in module} for file in FILES}
        while after:
            free = [name for name, others in after.items() if not others & set(after)]
            self.assertNotEqual(free, [], after)
            for name in free:
                del after[name]

    def test_all_that_is_imported_is_used(self):
        for file in FILES:
            used = {node.id for node in nodes_of(file, ast.Name)}
            for module, name in imports_of(file):
                self.assertIn(name, used, file)

    def test_library_functions_are_only_called(self):
        for file in FILES:
            names = {name for module, name in imports_of(file) if module in LIBRARY}
            calls = [node for node in nodes_of(file, ast.Call) if isinstance(node.func, ast.Name)]
            calls = [node for node in calls if node.func.id in names]
            named = [node for node in nodes_of(file, ast.Name) if node.id in names]
            self.assertEqual(len(calls), len(named), file)
            for node in calls:
                self.assertFalse(any(isinstance(part, ast.Starred) for part in node.args), file)
                self.assertEqual(node.keywords, [], file)

    def test_module_level(self):
        for file in FILES:
            bound = [name for _, name in imports_of(file)]
            for node in tree_of(file).body:
                self.assertIsInstance(node, (ast.Expr, ast.ImportFrom, ast.FunctionDef, ast.ClassDef, ast.Assign), file)
                if isinstance(node, ast.Assign):
                    self.assertEqual(len(node.targets), 1)
                    ast.literal_eval(node.value)
                    bound.append(node.targets[0].id)
                elif isinstance(node, (ast.FunctionDef, ast.ClassDef)):
                    bound.append(node.name)
            self.assertEqual(len(bound), len(set(bound)), file)

    def test_statements(self):
        for place, node in self.each(ast.stmt):
            self.assertIsInstance(node, STATEMENTS, place)
            if isinstance(node, ast.Expr):
                self.assertIsInstance(node.value, (ast.Call, ast.Constant), place)
        barred = (ast.NamedExpr, ast.Set, ast.SetComp, ast.Lambda, ast.Await, ast.Yield, ast.YieldFrom)
        self.assertEqual([place for place, _ in self.each(*barred)], [])

    def test_functions(self):
        for place, node in self.each(ast.FunctionDef, ast.ClassDef):
            decorators = [ast.unparse(decorator) for decorator in node.decorator_list]
            self.assertIn(decorators, ([], ["property"]) if isinstance(node, ast.FunctionDef) else ([],), place)
        for place, node in self.each(ast.FunctionDef):
            plain = (node.args.posonlyargs, node.args.kwonlyargs, node.args.vararg, node.args.kwarg)
            self.assertEqual(plain, ([], [], None, None), place)
            self.assertTrue(all(isinstance(worth, ast.Constant) for worth in node.args.defaults), place)
            self.assertTrue(ast.get_docstring(node) or node.name in ("__init__", "__enter__", "__exit__"), place)
            inner = [part for part in ast.walk(node) if isinstance(part, (ast.FunctionDef, ast.ClassDef))]
            self.assertEqual(inner, [node], place)

    def test_classes(self):
        marks = {"__init__", "__enter__", "__exit__", "__len__", "__bool__", "__contains__"}
        for place, node in self.each(ast.ClassDef):
            self.assertLessEqual(len(node.bases), 1, place)
            body = [part for part in node.body if not isinstance(part, ast.Expr)]
            self.assertTrue(all(isinstance(part, ast.FunctionDef) for part in body), place)
            methods = [part.name for part in body]
            self.assertEqual(len(methods), len(set(methods)), place)
            attributes = {part.attr for part in ast.walk(node) if isinstance(part, ast.Attribute)
                          and isinstance(part.ctx, ast.Store)}
            self.assertEqual(attributes & set(methods), set(), place)
            for part in body:
                self.assertTrue(part.name in marks or not part.name.startswith("__"), place)
                self.assertEqual(part.args.args[0].arg, "self", place)
                if part.decorator_list or part.name in ("__len__", "__bool__", "__contains__"):
                    # A property, an operator or a length does no more than tell something.
                    self.assertEqual([type(row) for row in part.body], [ast.Expr, ast.Return], place)
                if part.name == "__len__":
                    self.assertTrue(ast.unparse(part.body[1]).startswith("return len("), place)

    def test_properties_are_not_attributes(self):
        told = {node.name for _, node in self.each(ast.FunctionDef) if node.decorator_list}
        self.assertEqual(told, {"lights", "plates", "beams", "wishes"})
        stored = {node.attr for _, node in self.each(ast.Attribute) if isinstance(node.ctx, ast.Store)}
        self.assertEqual(told & stored, set())

    def test_ends_of_with_statements(self):
        for place, node in self.each(ast.FunctionDef):
            if node.name == "__exit__":
                self.assertEqual([part.arg for part in node.args.args], ["self", "kind", "value", "trace"], place)
                reads = [part.id for part in ast.walk(node) if isinstance(part, ast.Name) and isinstance(part.ctx, ast.Load)]
                self.assertEqual(set(reads) & {"value", "trace"}, set(), place)
                for part in ast.walk(node):
                    self.assertNotIsInstance(
                        part, (ast.Call, ast.BinOp, ast.Subscript, ast.For, ast.While, ast.Raise), place,
                    )
                    if isinstance(part, ast.If):
                        self.assertEqual(ast.unparse(part.test), "kind is not None", place)

    def test_texts_in_braces(self):
        for place, node in self.each(ast.FormattedValue):
            self.assertEqual((node.conversion, node.format_spec), (-1, None), place)
            self.assertFalse(any(isinstance(part, ast.Constant) and isinstance(part.value, str) for part in ast.walk(node)))

    def test_names(self):
        for file in FILES:
            tree = tree_of(file)
            high = {name for _, name in imports_of(file)} | {n.name for n in tree.body if isinstance(n, ast.ClassDef)}
            own = {node.name for node in tree.body if isinstance(node, ast.FunctionDef)}
            for function in nodes_of(file, ast.FunctionDef):
                for name in names_bound_within(function):
                    place = (file.name, function.name, name)
                    self.assertNotIn(name, high | own, place)
                    self.assertNotIn(name, dir(builtins), place)
                    self.assertNotIn(name, BARRED_NAMES, place)
                    self.assertRegex(name, r"^_?[A-Za-z][A-Za-z0-9_]*$|^_$", place)
                reads = [n.id for n in ast.walk(function) if isinstance(n, ast.Name) and isinstance(n.ctx, ast.Load)]
                self.assertNotIn("_", reads)
                self.assertNotIn(function.name, BARRED_NAMES | set(dir(builtins)))

    def test_builtins_methods_and_calls(self):
        for file in FILES:
            known = defined_in(file) | {name for _, name in imports_of(file)}
            for function in nodes_of(file, ast.FunctionDef):
                bound = set(names_bound_within(function))
                for node in ast.walk(function):
                    if isinstance(node, ast.Name) and isinstance(node.ctx, ast.Load) and node.id != "property":
                        self.assertIn(node.id, known | bound | BUILTINS, (file.name, node.lineno))
        own = own_attributes()
        for place, node in self.each(ast.Attribute):
            self.assertIn(node.attr, METHODS | own, place)
        for place, node in self.each(ast.Call):
            self.assertEqual(node.keywords, [], place)
            self.assertFalse(any(isinstance(part, ast.Starred) for part in node.args), place)
        for place, node in self.each(ast.Compare):
            for operator, right in zip(node.ops, node.comparators):
                if isinstance(operator, (ast.Is, ast.IsNot)):
                    kind = isinstance(node.left, ast.Call) and node.left.func.id == "type"
                    self.assertTrue(kind or isinstance(right, ast.Constant) and right.value is None, place)

    def test_own_attributes(self):
        self.assertEqual(own_attributes() & (METHODS - {"count", "index", "copy", "find", "get", "join"}), set())
        self.assertEqual(own_attributes() & BARRED_ATTRIBUTES, set())

    def test_numbers_and_strings(self):
        for place, node in self.each(ast.Constant):
            self.assertNotIsInstance(node.value, (float, complex, bytes), place)
            if isinstance(node.value, str):
                self.assertNotIn("%", node.value, place)
                self.assertNotIn("__", node.value, place)
        for place, node in self.each(ast.BinOp, ast.AugAssign):
            self.assertNotIsInstance(node.op, (ast.Div, ast.Pow, ast.MatMult), place)


def own_attributes():
    """The names of the attributes that the package's classes give their own objects, and of their methods."""
    found = set()
    for file in FILES:
        for node in nodes_of(file, ast.ClassDef):
            for part in ast.walk(node):
                if isinstance(part, ast.Attribute) and isinstance(part.ctx, ast.Store) and part.value.id == "self":
                    found.add(part.attr)
            found |= {part.name for part in node.body if isinstance(part, ast.FunctionDef)}
    return found


def defined_in(file):
    """The names that a file binds at its module level, but for imports."""
    found = set()
    for node in tree_of(file).body:
        if isinstance(node, ast.Assign):
            found.add(node.targets[0].id)
        elif isinstance(node, (ast.FunctionDef, ast.ClassDef)):
            found.add(node.name)
    return found


if __name__ == "__main__":
    unittest.main()
