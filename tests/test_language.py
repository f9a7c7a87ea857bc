"""The rules of the language subset that a look at the text of the package can settle."""

import ast
import builtins
import pathlib
import re
import unittest
import warnings

FOLDER = pathlib.Path(__file__).resolve().parent.parent / "sentnext"

LIBRARY = {
    "heapq": {"heappush", "heappop", "heapify", "heapreplace", "heappushpop"},
    "math": {"gcd", "lcm", "isqrt", "comb", "perm", "factorial"},
    "itertools": {
        "product", "combinations", "permutations",
        "chain", "accumulate", "pairwise", "islice", "zip_longest",
    },
    "collections": {"defaultdict"},
}
BUILTINS = set(
    "len range enumerate zip min max sum abs sorted reversed map int str bool list tuple dict set"
    " isinstance ord repr any all divmod pow iter next super property staticmethod classmethod"
    " Exception ValueError TypeError KeyError IndexError LookupError ZeroDivisionError"
    " ArithmeticError OverflowError RuntimeError NotImplementedError AttributeError StopIteration"
    " NotImplemented".split()
)
METHODS = set(
    "append clear copy count endswith extend find get index insert isalnum isalpha isdigit islower"
    " isspace isupper items join keys ljust lower lstrip partition pop remove replace reverse rfind"
    " rjust rpartition rsplit rstrip setdefault split splitlines startswith strip update upper"
    " values zfill bit_length title capitalize swapcase casefold center expandtabs removeprefix"
    " removesuffix rindex isascii isdecimal isnumeric istitle isidentifier isprintable"
    " add discard __init__".split()
)
CLASS_METHODS = set("__init__ __eq__ __ne__ __len__ __repr__ __str__ __enter__ __exit__ __call__ __iter__".split())
LIST_TAKERS = ("any", "all", "min", "max", "sum", "sorted")
BARRED_NODES = (
    ast.Global, ast.AsyncFunctionDef, ast.AsyncFor, ast.AsyncWith, ast.Await, ast.Div, ast.MatMult,
)
BARRED_WORDS = set(
    "type typing enum Enum IntEnum StrEnum Flag IntFlag Generic Protocol ABC ABCMeta namedtuple"
    " NamedTuple TypedDict abstractmethod dataclass overload contextmanager".split()
)
DECORATORS = re.compile(r"property|staticmethod|classmethod|[a-z]\w*\.setter")


def files():
    """The files of the package."""
    return sorted(FOLDER.rglob("*.py"))


def texts():
    """For each file its path and its text."""
    return [(path, path.read_text(encoding="utf-8")) for path in files()]


def nodes(kinds):
    """Each part of these kinds in the package, with the path of its file."""
    for path, text in texts():
        for node in ast.walk(ast.parse(text)):
            if isinstance(node, kinds):
                yield path, node


def own_methods():
    """The names of all functions and methods that the package defines."""
    return {node.name for _, node in nodes(ast.FunctionDef)}


def bound_names():
    """Each name that the package gives a meaning, with the path of its file."""
    for path, node in nodes((ast.FunctionDef, ast.ClassDef, ast.Name, ast.arg)):
        if isinstance(node, (ast.FunctionDef, ast.ClassDef)):
            yield path, node.name
        elif isinstance(node, ast.arg):
            yield path, node.arg
        elif not isinstance(node.ctx, ast.Load):
            yield path, node.id


class Language(unittest.TestCase):
    def test_the_folder_holds_python_files_alone(self):
        self.assertTrue((FOLDER / "__init__.py").is_file())
        for path in FOLDER.rglob("*"):
            if "__pycache__" not in path.parts and path.is_file():
                self.assertRegex(path.name, r"\A(__init__|__main__|[a-z][a-z0-9_]*)\.py\Z")

    def test_lines_and_characters(self):
        for path, text in texts():
            lines = text.split("\n")
            self.assertLessEqual(len(lines), 400, path)
            for number, line in enumerate(lines, 1):
                self.assertLessEqual(len(line), 120, (path, number))
            self.assertRegex(text, r"\A[ -~\n]*\Z", path)

    def test_functions_have_at_most_forty_lines(self):
        for path, node in nodes(ast.FunctionDef):
            self.assertLessEqual(node.end_lineno - node.lineno + 1, 40, (path, node.name))

    def test_python_warns_of_nothing(self):
        with warnings.catch_warnings():
            warnings.simplefilter("error")
            for path, text in texts():
                compile(text, str(path), "exec")

    def test_imports(self):
        for path, node in nodes((ast.Import, ast.ImportFrom)):
            if isinstance(node, ast.Import):
                self.assertEqual((path.name, node.names[0].name), ("__main__.py", "sys"))
                continue
            self.assertEqual(node.level, 0, path)
            words = {alias.name for alias in node.names}
            if node.module in LIBRARY:
                self.assertLessEqual(words, LIBRARY[node.module], path)
                continue
            self.assertRegex(node.module, r"\Asentnext\.\w+\Z", path)
            self.defined_there(node.module, words)

    def defined_there(self, module, words):
        """Each word is given its meaning in the file that it is imported from."""
        tree = ast.parse((FOLDER / (module.split(".")[1] + ".py")).read_text(encoding="utf-8"))
        defined = {node.name for node in tree.body if isinstance(node, (ast.FunctionDef, ast.ClassDef))}
        for node in tree.body:
            if isinstance(node, ast.Assign):
                defined.update(target.id for target in node.targets)
        self.assertLessEqual(words, defined, module)

    def test_module_level(self):
        allowed = (ast.Import, ast.ImportFrom, ast.FunctionDef, ast.ClassDef, ast.Assign)
        for path, text in texts():
            for at, node in enumerate(ast.parse(text).body):
                docstring = at == 0 and isinstance(node, ast.Expr)
                self.assertTrue(docstring or isinstance(node, allowed), (path, node.lineno))

    def test_statements_and_signs(self):
        for path, node in nodes(BARRED_NODES):
            self.fail((path, ast.dump(node)))

    def test_values(self):
        for path, node in nodes(ast.Constant):
            self.assertNotIsInstance(node.value, (float, complex), path)
            if isinstance(node.value, str):
                self.assertNotIn("%", node.value, path)

    def test_decorators(self):
        for path, node in nodes((ast.FunctionDef, ast.ClassDef)):
            for decorator in node.decorator_list:
                self.assertRegex(ast.unparse(decorator), DECORATORS, path)

    def test_builtins(self):
        barred = set(dir(builtins)) - BUILTINS
        for path, node in nodes(ast.Name):
            self.assertNotIn(node.id, barred, path)
        for path, name in bound_names():
            self.assertNotIn(name, set(dir(builtins)), path)

    def test_no_name_is_that_of_an_import_of_its_file(self):
        imported = {(path, alias.name) for path, node in nodes(ast.ImportFrom) for alias in node.names}
        for bound in bound_names():
            self.assertNotIn(bound, imported)

    def test_each_name_is_bound_once_at_module_level(self):
        for path, text in texts():
            names = []
            for node in ast.parse(text).body:
                if isinstance(node, (ast.FunctionDef, ast.ClassDef)):
                    names.append(node.name)
                elif isinstance(node, ast.ImportFrom):
                    names += [alias.name for alias in node.names]
                elif isinstance(node, ast.Assign):
                    names += [target.id for target in node.targets]
            self.assertEqual(len(names), len(set(names)), path)

    def test_methods_of_builtin_values(self):
        own = own_methods()
        for path, node in nodes(ast.Call):
            if isinstance(node.func, ast.Attribute):
                self.assertIn(node.func.attr, METHODS | own, path)

    def test_methods_with_two_underscores(self):
        for path, node in nodes(ast.FunctionDef):
            if node.name.startswith("__"):
                self.assertIn(node.name, CLASS_METHODS, path)
        for path, name in bound_names():
            self.assertTrue(name in CLASS_METHODS or not name.startswith("__"), (path, name))

    def test_lists_where_a_class_compares(self):
        # A class has __eq__, so these take no generator expression.
        for path, node in nodes(ast.Call):
            if isinstance(node.func, ast.Name) and node.func.id in LIST_TAKERS:
                for part in node.args:
                    self.assertNotIsInstance(part, ast.GeneratorExp, (path, node.lineno))

    def test_attributes_are_assigned_through_a_local_name(self):
        for path, node in nodes(ast.Attribute):
            if not isinstance(node.ctx, ast.Load):
                self.assertIsInstance(node.value, ast.Name, path)

    def test_no_name_is_a_method_and_an_attribute(self):
        attributes = {node.attr for _, node in nodes(ast.Attribute) if not isinstance(node.ctx, ast.Load)}
        methods = {part.name for _, node in nodes(ast.ClassDef) for part in node.body if isinstance(part, ast.FunctionDef)}
        self.assertFalse(attributes & methods)

    def test_files_import_in_one_direction(self):
        ahead = {}
        for path, node in nodes(ast.ImportFrom):
            ahead.setdefault(path.stem, set()).add(node.module.split(".")[-1])
        while ahead:
            free = [file for file, needed in ahead.items() if not needed & set(ahead)]
            self.assertTrue(free, ahead)
            for file in free:
                del ahead[file]

    def test_is_stands_beside_none_true_and_false(self):
        for path, node in nodes(ast.Compare):
            for sign, right in zip(node.ops, node.comparators):
                if isinstance(sign, (ast.Is, ast.IsNot)):
                    self.assertIn(ast.unparse(right), ("None", "True", "False"), path)

    def test_barred_words(self):
        for path, node in nodes((ast.Name, ast.Attribute, ast.arg)):
            words = set(re.findall(r"\w+", ast.unparse(node)))
            self.assertFalse(words & BARRED_WORDS, path)


if __name__ == "__main__":
    unittest.main()
