"""Rules of LANGUAGE.md that can be seen in the files of the package."""

import ast
import re
import unittest
from pathlib import Path

import toldenough

FOLDER = Path(toldenough.__file__).parent
FILES = sorted(FOLDER.rglob("*.py"))
LIBRARY = {
    "heapq": {"heappush", "heappop", "heapify", "heapreplace", "heappushpop"},
    "math": {"gcd", "lcm", "isqrt", "comb", "perm", "factorial"},
    "itertools": {"chain", "accumulate", "pairwise", "islice", "zip_longest"},
    "collections": {"defaultdict"},
}
BUILTINS = set("""len range enumerate zip min max sum abs sorted reversed int str bool bytes list tuple dict set
    frozenset isinstance ord repr any all divmod pow getattr hasattr setattr iter next map Exception ValueError
    TypeError KeyError IndexError LookupError ZeroDivisionError ArithmeticError OverflowError RuntimeError
    NotImplementedError AttributeError StopIteration NotImplemented property staticmethod classmethod super
    """.split())
METHODS = set("""__init__ __eq__ __repr__ __str__ __len__ __enter__ __exit__ __call__ __iter__ __lt__ __le__ __gt__
    __ge__ __ne__ __add__ __sub__ __mul__ __and__ __or__ __xor__ __neg__ __invert__ __abs__ __bool__ __contains__
    __getitem__ __setitem__""".split())
WORDS = re.compile(r"\b(type|typing|typing_extensions|enum|Enum|IntEnum|StrEnum|Flag|IntFlag|Generic|Protocol|ABC|"
                   r"ABCMeta|namedtuple|NamedTuple|TypedDict|TYPE_CHECKING|abstractmethod)\b|"
                   r"dataclass|overload|contextmanager|_wall|_WallAttr")
# These words may stand in strings, as "open" does, but they name nothing.
NAMES = set("""register mro elements open input law version_info with_traceback add_note attrgetter breakpoint builtins
    compile copyright credits delattr dir eval exec exit gc globals help id importlib license locals methodcaller os
    quit type vars sys""".split())
LAZY = {"range", "zip", "enumerate", "reversed"}
VIEWS = {"items", "keys", "values"}
TAKERS = {"list", "tuple", "dict", "sorted", "sum", "any", "all", "enumerate", "zip", "min", "max"}
BARRED = (ast.Global, ast.AsyncFunctionDef, ast.AsyncFor, ast.AsyncWith, ast.Await, ast.Div)
OF_VALUES = set("""append clear copy count endswith extend find get index insert isalnum isalpha isdigit islower isspace
    isupper items join keys ljust lower lstrip partition pop remove replace reverse rfind rjust rpartition rsplit rstrip
    setdefault split splitlines startswith strip update upper values zfill bit_length title capitalize swapcase casefold
    center expandtabs removeprefix removesuffix rindex isascii isdecimal isnumeric istitle isidentifier isprintable add
    discard""".split())
GROWING = {"append", "extend", "insert", "pop", "remove", "clear", "sort", "reverse", "update", "setdefault"}


def tree_of(path):
    return ast.parse(path.read_text(encoding="ascii"), str(path))


def nodes():
    """Return the pairs of a place and a node, for each node of each file."""
    return [(f"{path.name}:{getattr(node, 'lineno', 0)}", node) for path in FILES for node in ast.walk(tree_of(path))]


class Files(unittest.TestCase):

    def test_the_folder_contains_files_with_plain_names_only(self):
        for path in FOLDER.rglob("*"):
            if path.name != "__pycache__" and path.parent.name != "__pycache__":
                self.assertRegex(path.name, r"^(__init__|[a-z][a-z0-9_]*)\.py$|^[a-z][a-z0-9_]*$")
        self.assertTrue((FOLDER / "__init__.py").exists())

    def test_size_and_characters(self):
        for path in FILES:
            lines = path.read_bytes().decode("ascii").split("\n")
            self.assertLessEqual(len(lines) - 1, 399, path)
            for number, line in enumerate(lines, 1):
                with self.subTest(file=path.name, line=number):
                    self.assertLessEqual(len(line), 120)
                    self.assertTrue(all(" " <= sign <= "~" for sign in line))
                    self.assertIsNone(WORDS.search(line))

    def test_functions_have_at_most_forty_lines(self):
        for place, node in nodes():
            if isinstance(node, ast.FunctionDef):
                self.assertLessEqual(node.end_lineno - node.lineno + 1, 40, place)


class Imports(unittest.TestCase):

    def imports_of(self, path):
        return [node for node in ast.walk(tree_of(path)) if isinstance(node, (ast.Import, ast.ImportFrom))]

    def test_names_come_from_the_files_that_define_them(self):
        for path in FILES:
            for node in self.imports_of(path):
                with self.subTest(file=path.name, line=node.lineno):
                    self.assertIsInstance(node, ast.ImportFrom)
                    self.assertEqual(node.level, 0)
                    names = {alias.name for alias in node.names}
                    if node.module in LIBRARY:
                        self.assertLessEqual(names, LIBRARY[node.module])
                        continue
                    self.assertRegex(node.module, r"^toldenough\.[a-z_]+$")
                    source = FOLDER / (node.module.split(".")[1] + ".py")
                    self.assertLessEqual(names, self.bound_in(source))

    def bound_in(self, path):
        bound = set()
        for node in tree_of(path).body:
            if isinstance(node, (ast.FunctionDef, ast.ClassDef)):
                bound.add(node.name)
            if isinstance(node, ast.Assign):
                bound.update(target.id for target in node.targets)
        return bound

    def test_no_two_files_import_from_each_other(self):
        needs = {path.stem: {node.module.split(".")[-1] for node in self.imports_of(path)} for path in FILES}
        left = dict(needs)
        while left:
            free = [name for name in left if not left[name] & set(left)]
            self.assertTrue(free, f"a circle among {sorted(left)}")
            for name in free:
                del left[name]


class Code(unittest.TestCase):

    def test_statements_and_values(self):
        for place, node in nodes():
            self.assertNotIsInstance(node, BARRED, place)
            if isinstance(node, ast.Constant):
                self.assertNotIsInstance(node.value, (float, complex), place)
                if isinstance(node.value, str):
                    self.assertNotIn("%", node.value, place)
            if isinstance(node, (ast.FunctionDef, ast.ClassDef)):
                for sign in node.decorator_list:
                    self.assertIn(ast.unparse(sign), ("property", "staticmethod", "classmethod"), place)

    def test_double_underscore_names(self):
        for place, node in nodes():
            name = getattr(node, "name", None) or getattr(node, "id", None) or getattr(node, "attr", None)
            if isinstance(name, str) and name.startswith("__"):
                self.assertIn(name, METHODS, place)

    def test_names_that_are_not_used(self):
        for place, node in nodes():
            for part in ("name", "id", "attr", "arg", "asname"):
                self.assertNotIn(getattr(node, part, None), NAMES, place)

    def test_ranges_zips_and_views_are_iterated_at_once(self):
        for path in FILES:
            tree = tree_of(path)
            parents = {child: node for node in ast.walk(tree) for child in ast.iter_child_nodes(node)}
            for node in ast.walk(tree):
                if not isinstance(node, ast.Call):
                    continue
                lazy = isinstance(node.func, ast.Name) and node.func.id in LAZY
                view = isinstance(node.func, ast.Attribute) and node.func.attr in VIEWS
                if lazy or view:
                    parent = parents[node]
                    taken = (isinstance(parent, (ast.For, ast.comprehension)) and parent.iter is node
                             or isinstance(parent, ast.Call) and parent.args[0] is node
                             and isinstance(parent.func, ast.Name) and parent.func.id in TAKERS)
                    self.assertTrue(taken, f"{path.name}:{node.lineno}")

    def test_sets_are_not_iterated_or_kept_in_objects(self):
        for path in FILES:
            tree = tree_of(path)
            parents = {child: node for node in ast.walk(tree) for child in ast.iter_child_nodes(node)}
            for node in ast.walk(tree):
                place = f"{path.name}:{getattr(node, 'lineno', 0)}"
                if isinstance(node, (ast.Set, ast.SetComp)) or (
                        isinstance(node, ast.Call) and isinstance(node.func, ast.Name) and node.func.id == "set"):
                    parent = parents[node]
                    if isinstance(parent, ast.Assign):
                        self.assertIsInstance(parent.targets[0], ast.Name, place)
                    elif isinstance(parent, ast.Call):
                        self.assertIn(getattr(parent.func, "id", None), ("sorted", "len"), place)
                    else:
                        self.assertIsInstance(parent, ast.Compare, place)

    def test_each_method_of_the_interface_stands_in_its_class(self):
        for name in ("Halves", "Boxes", "Rising", "Flats", "Turns", "Contrary", "Pair"):
            found = {part.name for node in tree_of(FOLDER / "kinds.py").body
                     if isinstance(node, ast.ClassDef) and node.name == name
                     for part in node.body if isinstance(part, ast.FunctionDef)}
            self.assertLessEqual({"__init__", "has", "reach", "text", "__invert__", "__and__", "__or__", "__add__",
                                  "__eq__"}, found, name)

    def test_builtins(self):
        known = set(dir(__builtins__)) if not isinstance(__builtins__, dict) else set(__builtins__)
        for place, node in nodes():
            if isinstance(node, ast.Name) and node.id in known:
                self.assertIn(node.id, BUILTINS, place)
                self.assertIsInstance(node.ctx, ast.Load, place)
            if isinstance(node, ast.arg):
                self.assertNotIn(node.arg, known, place)
        for path in FILES:
            for node in tree_of(path).body:
                if isinstance(node, (ast.FunctionDef, ast.ClassDef)):
                    self.assertNotIn(node.name, known, path.name)

    def test_methods_are_own_ones_or_those_of_builtin_values(self):
        own = {part.name for _, node in nodes() if isinstance(node, ast.ClassDef)
               for part in node.body if isinstance(part, ast.FunctionDef)}
        for place, node in nodes():
            if isinstance(node, ast.Call) and isinstance(node.func, ast.Attribute):
                self.assertIn(node.func.attr, own | OF_VALUES, place)
                if node.func.attr in OF_VALUES:
                    self.assertFalse(node.keywords, place)

    def test_no_name_is_a_method_and_an_attribute_and_no_attribute_hides_a_method_of_a_value(self):
        methods = {part.name for _, node in nodes() if isinstance(node, ast.ClassDef)
                   for part in node.body if isinstance(part, ast.FunctionDef)}
        for place, node in nodes():
            if isinstance(node, ast.Attribute) and isinstance(node.ctx, ast.Store):
                self.assertNotIn(node.attr, methods, place)
                self.assertNotIn(node.attr, {"items", "keys", "values", "pop", "update", "append", "clear", "extend",
                                             "insert", "remove", "reverse", "setdefault", "sort", "args"}, place)

    def test_what_stands_in_finally(self):
        for place, node in nodes():
            if isinstance(node, ast.Try):
                for row in node.finalbody:
                    self.assertIsInstance(row, ast.Assign, place)
                    self.assertFalse([part for part in ast.walk(row) if isinstance(part, (ast.Call, ast.Subscript))])

    def test_no_generator_expression_beside_an_equality(self):
        for place, node in nodes():
            if isinstance(node, ast.Call) and isinstance(node.func, ast.Name):
                if node.func.id in ("any", "all", "min", "max", "sum", "sorted"):
                    self.assertFalse([part for part in node.args if isinstance(part, ast.GeneratorExp)], place)

    def test_caught_errors_are_own_ones_or_free_ones(self):
        for place, node in nodes():
            if isinstance(node, ast.ExceptHandler):
                self.assertIsNotNone(node.type, place)
                caught = node.type.elts if isinstance(node.type, ast.Tuple) else [node.type]
                for error in caught:
                    self.assertNotIn(error.id, ("Exception", "BaseException", "TypeError", "AttributeError"), place)

    def test_module_level(self):
        allowed = (ast.FunctionDef, ast.ClassDef, ast.Assign, ast.ImportFrom)
        for path in FILES:
            body = tree_of(path).body
            self.assertIsInstance(body[0], ast.Expr, path.name)
            for node in body[1:]:
                self.assertIsInstance(node, allowed, f"{path.name}:{node.lineno}")

    def test_no_parameter_or_variable_has_the_name_of_an_import_or_class(self):
        for path in FILES:
            tree = tree_of(path)
            taken = {alias.name for node in tree.body if isinstance(node, ast.ImportFrom) for alias in node.names}
            taken |= {node.name for node in tree.body if isinstance(node, ast.ClassDef)}
            for node in ast.walk(tree):
                if isinstance(node, ast.arg):
                    self.assertNotIn(node.arg, taken, f"{path.name}:{node.lineno}")
                if isinstance(node, ast.Name) and isinstance(node.ctx, ast.Store):
                    self.assertNotIn(node.id, taken, f"{path.name}:{node.lineno}")

    def test_no_shared_list_or_dict_is_changed(self):
        for path in FILES:
            tree = tree_of(path)
            shared = {target.id for node in tree.body if isinstance(node, ast.Assign) for target in node.targets}
            for node in ast.walk(tree):
                place = f"{path.name}:{getattr(node, 'lineno', 0)}"
                if isinstance(node, ast.Subscript) and isinstance(node.value, ast.Name) and node.value.id in shared:
                    self.assertIsInstance(node.ctx, ast.Load, place)
                if isinstance(node, ast.Attribute) and isinstance(node.value, ast.Name) and node.value.id in shared:
                    self.assertNotIn(node.attr, GROWING, place)


if __name__ == "__main__":
    unittest.main()
