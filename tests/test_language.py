"""Whether the files of the package keep to the rules of the language that a reader of them misses most easily."""

import ast
import builtins
import pathlib
import re
import unittest

FOLDER = pathlib.Path(__file__).resolve().parent.parent / "wordskips"
FILES = sorted(path for path in FOLDER.rglob("*.py"))
BUILTINS = set("""
    len range enumerate zip min max sum abs sorted reversed int str bool bytes list tuple dict set isinstance
    ord repr any all divmod iter next map classmethod staticmethod property super Exception ValueError
    TypeError KeyError IndexError LookupError ZeroDivisionError ArithmeticError OverflowError RuntimeError
    NotImplementedError AttributeError StopIteration NotImplemented""".split())
METHODS = set("""append clear copy count endswith extend find get index insert isalnum isalpha isdigit islower isspace
    isupper items join keys ljust lower lstrip partition pop remove replace reverse rfind rjust rpartition rsplit rstrip
    setdefault split splitlines startswith strip update upper values zfill bit_length isascii isdecimal removeprefix
    removesuffix rindex add discard __init__""".split())
BARRED = """type typing typing_extensions enum Enum IntEnum StrEnum Flag IntFlag Generic Protocol ABC ABCMeta namedtuple
    NamedTuple TypedDict TYPE_CHECKING abstractmethod register mro elements open input law version_info with_traceback
    add_note breakpoint compile eval exec exit getattr globals hasattr help id locals setattr vars""".split()
OPERATORS = """__init__ __eq__ __str__ __add__ __radd__ __sub__ __rsub__ __mul__ __rmul__ __neg__ __abs__""".split()
STATEMENTS = (ast.Global, ast.AsyncFunctionDef, ast.AsyncFor, ast.AsyncWith, ast.Import, ast.GeneratorExp)


def told(path):
    text = path.read_text()
    return text, ast.parse(text)


def functions(tree):
    return [node for node in ast.walk(tree) if isinstance(node, ast.FunctionDef)]


def docstrings(tree):
    nodes = [node for node in ast.walk(tree) if isinstance(node, (ast.Module, ast.ClassDef, ast.FunctionDef))]
    return [node.body[0].value for node in nodes if node.body and isinstance(node.body[0], ast.Expr)]


def bound(tree):
    """The names that functions bind: parameters, local variables and nested functions."""
    for function in functions(tree):
        for node in ast.walk(function):
            if isinstance(node, ast.arg):
                yield node.arg
            elif isinstance(node, ast.Name) and isinstance(node.ctx, ast.Store):
                yield node.id
            elif isinstance(node, ast.FunctionDef) and node is not function:
                yield node.name


class Rules(unittest.TestCase):

    def test_files(self):
        self.assertTrue(FILES)
        for path in FOLDER.rglob("*"):
            if "__pycache__" not in str(path):
                self.assertRegex(path.name, r"^(__init__|[a-z0-9_]+)\.py$")

    def test_sizes(self):
        for path in FILES:
            text, tree = told(path)
            self.assertLessEqual(len(text.split("\n")), 399, path)
            self.assertLessEqual(max(len(line) for line in text.split("\n")), 120, path)
            for function in functions(tree):
                self.assertLessEqual(function.end_lineno - function.lineno + 1, 40, function.name)

    def test_signs(self):
        for path in FILES:
            text, tree = told(path)
            self.assertTrue(all(" " <= sign <= "~" or sign == "\n" for sign in text), path)
            for node in ast.walk(tree):
                if isinstance(node, ast.Constant) and isinstance(node.value, str):
                    self.assertNotIn("%", node.value)

    def test_imports_name_the_very_file(self):
        edges = {}
        for path in FILES:
            _, tree = told(path)
            edges[path.stem] = []
            for node in ast.walk(tree):
                self.assertNotIsInstance(node, STATEMENTS)
                if isinstance(node, ast.ImportFrom) and node.module not in ("heapq", "math", "itertools"):
                    self.assertRegex(node.module, r"^wordskips\.[a-z0-9_]+$")
                    self.assertEqual(node.level, 0)
                    _, other = told(FOLDER / (node.module.split(".")[1] + ".py"))
                    named = [part.name for part in other.body if isinstance(part, (ast.FunctionDef, ast.ClassDef))]
                    named += [part.targets[0].id for part in other.body if isinstance(part, ast.Assign)]
                    self.assertLessEqual({name.name for name in node.names}, set(named))
                    edges[path.stem].append(node.module.split(".")[1])
        done = []
        while len(done) < len(edges):
            free = [name for name in edges if name not in done and all(other in done for other in edges[name])]
            self.assertTrue(free, "files import from each other")
            done.extend(free)

    def test_words_that_do_not_occur(self):
        for path in FILES:
            _, tree = told(path)
            texts = docstrings(tree)
            for node in ast.walk(tree):
                words = []
                if isinstance(node, ast.Constant) and isinstance(node.value, str) and node not in texts:
                    words = re.findall(r"\w+", node.value)
                for field in ("id", "attr", "arg", "name"):
                    words.append(getattr(node, field, None))
                for word in words:
                    self.assertNotIn(word, BARRED, path)

    def test_builtins_and_methods(self):
        own = set()
        for path in FILES:
            own |= {function.name for function in functions(told(path)[1])}
        for path in FILES:
            for node in ast.walk(told(path)[1]):
                if isinstance(node, ast.Name) and hasattr(builtins, node.id):
                    self.assertIn(node.id, BUILTINS)
                if isinstance(node, ast.Call) and isinstance(node.func, ast.Attribute):
                    self.assertIn(node.func.attr, METHODS | own)

    def test_names_mean_one_thing(self):
        for path in FILES:
            _, tree = told(path)
            taken = [name.name for node in tree.body if isinstance(node, ast.ImportFrom) for name in node.names]
            classes = [node.name for node in tree.body if isinstance(node, ast.ClassDef)]
            for name in bound(tree):
                self.assertNotIn(name, taken + classes)
                self.assertFalse(hasattr(builtins, name), name)
            once = taken + [node.name for node in tree.body if hasattr(node, "name")]
            once += [node.targets[0].id for node in tree.body if isinstance(node, ast.Assign)]
            self.assertEqual(len(once), len(set(once)))

    def test_classes(self):
        attributes, methods = set(), set()
        for path in FILES:
            for node in ast.walk(told(path)[1]):
                if isinstance(node, ast.ClassDef):
                    methods |= {part.name for part in node.body if isinstance(part, ast.FunctionDef)}
                if isinstance(node, ast.Attribute) and isinstance(node.ctx, ast.Store):
                    attributes.add(node.attr)
        for name in methods:
            if name.startswith("__"):
                self.assertIn(name, OPERATORS)
        self.assertFalse(attributes & methods)
        for kind in (str, int, list, dict, set, bytes, tuple):
            self.assertFalse((attributes | methods - set(OPERATORS)) & set(dir(kind)))

    def test_texts_of_objects_end_as_they_may(self):
        for path in FILES:
            for function in functions(told(path)[1]):
                if function.name in ("__str__", "__repr__"):
                    for node in ast.walk(function):
                        if isinstance(node, ast.Return):
                            self.assertTrue(isinstance(node.value, ast.JoinedStr) or node.value.func.id == "str")
                    self.assertIsInstance(function.body[-1], ast.Return)

    def test_powers_have_literal_exponents(self):
        for path in FILES:
            for node in ast.walk(told(path)[1]):
                if isinstance(node, ast.BinOp) and isinstance(node.op, ast.Pow):
                    self.assertIsInstance(node.right, ast.Constant)
                    self.assertLessEqual(node.right.value, 64)

    def test_methods_are_called_where_they_stand(self):
        methods, properties = set(), set()
        for path in FILES:
            for node in ast.walk(told(path)[1]):
                if isinstance(node, ast.ClassDef):
                    for part in node.body:
                        if isinstance(part, ast.FunctionDef):
                            marks = [mark.id for mark in part.decorator_list]
                            self.assertLessEqual(set(marks), {"property", "classmethod"})
                            (properties if "property" in marks else methods).add(part.name)
        self.assertTrue(properties)
        for path in FILES:
            nodes = list(ast.walk(told(path)[1]))
            called = [node.func for node in nodes if isinstance(node, ast.Call)]
            for node in nodes:
                if isinstance(node, ast.Attribute) and node.attr in methods:
                    self.assertIn(node, called, (path, node.attr))
                if isinstance(node, ast.Attribute) and node.attr in properties:
                    self.assertNotIn(node, called, (path, node.attr))

    def test_imports_are_used(self):
        for path in FILES:
            _, tree = told(path)
            taken = [name for node in tree.body if isinstance(node, ast.ImportFrom) for name in node.names]
            used = {node.id for node in ast.walk(tree) if isinstance(node, ast.Name)}
            for name in taken:
                self.assertIsNone(name.asname)
                self.assertIn(name.name, used, path)

    def test_nothing_is_changed_while_it_is_gone_over(self):
        for path in FILES:
            for loop in ast.walk(told(path)[1]):
                if isinstance(loop, ast.For):
                    over = ast.unparse(loop.iter)
                    for node in [inner for row in loop.body for inner in ast.walk(row)]:
                        changed = None
                        if isinstance(node, ast.Call) and isinstance(node.func, ast.Attribute):
                            if node.func.attr in ("append", "extend", "insert", "pop", "remove", "clear", "update"):
                                changed = ast.unparse(node.func.value)
                        if isinstance(node, ast.Call) and isinstance(node.func, ast.Name):
                            if node.func.id in ("heappush", "heappop"):
                                changed = ast.unparse(node.args[0])
                        if isinstance(node, ast.Subscript) and isinstance(node.ctx, ast.Store):
                            changed = ast.unparse(node.value)
                        self.assertNotEqual(changed, over, path)

    def test_sets_stand_where_they_may(self):
        for path in FILES:
            nodes = list(ast.walk(told(path)[1]))
            taken = [node.args[0] for node in nodes if isinstance(node, ast.Call) and isinstance(node.func, ast.Name)
                     and node.func.id in ("sorted", "len") and node.args]
            for node in nodes:
                is_set = isinstance(node, ast.Call) and isinstance(node.func, ast.Name) and node.func.id == "set"
                if is_set or isinstance(node, (ast.Set, ast.SetComp)):
                    self.assertIn(node, taken, path)

    def test_no_numbers_with_points(self):
        for path in FILES:
            for node in ast.walk(told(path)[1]):
                self.assertNotIsInstance(node, ast.Div)
                if isinstance(node, ast.Constant):
                    self.assertNotIsInstance(node.value, (float, complex))


if __name__ == "__main__":
    unittest.main()
